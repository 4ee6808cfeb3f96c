import PyProof.Rows.All
import KE.KLam
import KE.KNestM
import PyProof.OldK
import Wide.All
import OpenK.AllK
import Wide.FinOn
import Lean
import PyProof.EqAt
import PyProof.EqKinds
import PyProof.TupleCall
import KE.KRevIter
import PyProof.Rows.SeqMore
import PyProof.Rows.ListMulArg
import PyProof.ZipIter
import PyProof.Rows.ZipGen
import PyProof.EnumMake
import PyProof.StrWalks
import PyProof.SliceStr2
import PyProof.StrBlockH
import PyProof.FString5
import PyProof.Rows.StrJoin2
import PyProof.Rows.Range3
import KE.KDictLaws
import PyProof.ConsumeWalk
import PyProof.SumWalkG
import PyProof.Rows.SeqCalls
import PyProof.Rows.SeqGen
import PyProof.Rows.MinMaxN
import PyProof.Rows.CallKwBuiltin
import PyProof.Rows.SortStr
import PyProof.StrOps2
import PyProof.Rows.StrMul
import PyProof.IsRules
import PyProof.Rows.SetFrom
import PyProof.CollectStr
import PyProof.Rows.SortRuns
import PyProof.Rows.SortKey
import KE.KSortTup
import PyProof.StrOps
import PyProof.DictItems
import KE.KItemsList
import PyProof.StrLawsNeg
import PySem.Challenge.RW_nailhang_k16_all_rows_of_a_length
set_option Elab.async false
set_option linter.all false
set_option maxRecDepth 100000
set_option maxHeartbeats 4000000
local macro_rules | `(tactic| omega) => `(tactic| lia)
noncomputable section
namespace L2
open PySem PySem.Spec PyProof.Rows
abbrev bu:=Sum Int Str
def jt:bu→Value→Bool
  | .inl k,v=>Value.isInt k v
  | .inr x,v=>Value.isStrOf x v
def Au (w:World):bu→Int
  | .inl k=>hashInt k
  | .inr x=>hashStr w x
theorem bo:∀{k:bu} {v:Value},jt k v=true→(∃i t,k=Sum.inl i∧v=Value.int i t)∨(∃x t,k=Sum.inr x∧v=Value.str x t)
  | .inl i,v,h=>by
    obtain ⟨t,e⟩:=Value.isInt_shape (k:=i) (v:=v) h
    exact .inl ⟨i,t,rfl,e⟩
  | .inr x,v,h=>by
    obtain ⟨t,e⟩:=Value.isStrOf_shape (x:=x) (v:=v) h
    exact .inr ⟨x,t,rfl,e⟩
theorem rc (i:Int) (t:Tok):jt (.inl i) (.int i t)=true:=by simp [jt,Value.isInt]
theorem re (x:Str) (t:Tok):jt (.inr x) (.str x t)=true:=by simp [jt,Value.isStrOf]
theorem xo (a b:Int):decide ((Sum.inl a:bu)=Sum.inl b)=(a == b):=by
  by_cases e:a=b
  · subst e;simp
  · have h:¬(Sum.inl a:bu)=Sum.inl b:=fun q=>e (Sum.inl.inj q)
    rw [decide_eq_false h]
    exact (beq_eq_false_iff_ne.mpr e).symm
theorem xp (a b:Str):decide ((Sum.inr a:bu)=Sum.inr b)=decide (a=b):=by
  by_cases e:a=b
  · subst e;simp
  · have h:¬(Sum.inr a:bu)=Sum.inr b:=fun q=>e (Sum.inr.inj q)
    rw [decide_eq_false h,decide_eq_false e]
theorem xq (a:Int) (b:Str):decide ((Sum.inl a:bu)=Sum.inr b)=false:=decide_eq_false (fun q=>nomatch q)
theorem xr (a:Str) (b:Int):decide ((Sum.inr a:bu)=Sum.inl b)=false:=decide_eq_false (fun q=>nomatch q)
def aP (prog:Program) (w:World):PySem.KeyKind prog w bu where
  is:=jt
  hash:=Au w
  inj:=fun v a b ha hb=>by
    rcases bo ha with ⟨i,t,rfl,rfl⟩ | ⟨x,t,rfl,rfl⟩
    · rcases bo hb with ⟨j,u,rfl,e⟩ | ⟨y,u,rfl,e⟩
      · injection e with e1 _;rw [e1]
      · exact nomatch e
    · rcases bo hb with ⟨j,u,rfl,e⟩ | ⟨y,u,rfl,e⟩
      · exact nomatch e
      · injection e with e1 _;rw [e1]
  byValue:=fun k v h=>by
    rcases bo h with ⟨i,t,rfl,rfl⟩ | ⟨x,t,rfl,rfl⟩ <;> rfl
  pyHash:=fun hv h=>by
    rcases bo hv with ⟨i,t,rfl,rfl⟩ | ⟨x,t,rfl,rfl⟩
    · exact wpAny_pyHash_int h
    · exact wpAny_pyHash_str h
  eqBool:=fun hu hv h=>by
    rcases bo hu with ⟨i,t,rfl,rfl⟩ | ⟨x,t,rfl,rfl⟩
    · rcases bo hv with ⟨j,u,rfl,rfl⟩ | ⟨y,u,rfl,rfl⟩
      · rw [xo] at h;exact wpAny_eqBool_int h
      · rw [xq] at h;exact SeqAt.EqAt.int_str i t y u _ _ _ _ h
    · rcases bo hv with ⟨j,u,rfl,rfl⟩ | ⟨y,u,rfl,rfl⟩
      · rw [xr] at h;exact SeqAt.EqAt.str_int x t j u _ _ _ _ h
      · rw [xp] at h;exact wpAny_eqBool_str h
  «strs»:=fun k x t v h=>by
    rcases bo h with ⟨i,u,rfl,e⟩ | ⟨y,u,rfl,e⟩
    · exact nomatch e
    · injection e with e1 _
      subst e1
      cases v <;> rfl
theorem mP (prog:Program) (w:World) (i:Int) (t:Tok):(aP prog w).is (.inl i) (.int i t)=true:=rc i t
theorem mQ (prog:Program) (w:World) (x:Str) (t:Tok):(aP prog w).is (.inr x) (.str x t)=true:=re x t
end L2
namespace L2
open PySem PySem.Spec PyProof.Rows
inductive V where
  | non | bl (b:Bool) | int (i:Int) | str (x:Str) | byt (b:Array UInt8) | flt (b:UInt64) | ref (a:Addr) | ty (n:String)
  deriving DecidableEq
def RelV:V→Value→Prop
  | .non,u=>u=Value.none
  | .bl b,u=>u=Value.bool b
  | .int i,u=>∃t,u=Value.int i t
  | .str x,u=>∃t,u=Value.str x t
  | .byt b,u=>∃t,u=Value.bytes b t
  | .flt b,u=>∃t,u=Value.float b t
  | .ref a,u=>u=Value.ref a
  | .ty n,u=>u=Value.type n
abbrev Vals:List V→List Value→Prop:=Paired RelV
theorem Vals.length {xs:List V} {us:List Value} (r:Vals xs us):xs.length=us.length:=Paired.length r
theorem Vals.get:∀{xs:List V} {us:List Value} {i:Nat} {x:V},Vals xs us→xs[i]? =some x→∃u,us[i]? =some u∧RelV x u
  | _,_,_,_, .nil,e=>by simp at e
  | _,_,0,_, .cons r _,e=>by simp at e;subst e;exact ⟨_,rfl,r⟩
  | _,_,i+1,x, .cons _ t,e=>by
    obtain ⟨u,h1,h2⟩:=Vals.get (i:=i) (x:=x) t (by simpa using e)
    exact ⟨u,by simpa using h1,h2⟩
theorem Vals.set {x:V} {u:Value} (r:RelV x u):∀{xs:List V} {us:List Value} (i:Nat),Vals xs us→Vals (xs.set i x) (us.set i u)
  | _,_,_, .nil=> .nil
  | _,_,0, .cons _ t=> .cons r t
  | _,_,i+1, .cons q t=> .cons q (Vals.set r i t)
theorem Vals.append:∀{xs ys:List V} {us ws:List Value},Vals xs us→Vals ys ws→Vals (xs++ys) (us++ws)
  | _,_,_,_, .nil,s=>s
  | _,_,_,_, .cons r t,s=> .cons r (Vals.append t s)
theorem Vals.take:∀{xs:List V} {us:List Value} (n:Nat),Vals xs us→Vals (xs.take n) (us.take n)
  | _,_,0,_=> .nil
  | _,_,_+1, .nil=> .nil
  | _,_,n+1, .cons r t=> .cons r (Vals.take n t)
theorem Vals.drop:∀{xs:List V} {us:List Value} (n:Nat),Vals xs us→Vals (xs.drop n) (us.drop n)
  | _,_,0,r=>r
  | _,_,_+1, .nil=> .nil
  | _,_,n+1, .cons _ t=>Vals.drop n t
theorem Vals.none_of:∀{xs:List V} {us:List Value} {i:Nat},Vals xs us→xs[i]? =none→us[i]? =none:=fun {xs us i} r e=>by
  have h1:=r.length
  have h2:xs.length≤i:=List.getElem?_eq_none_iff.mp e
  exact List.getElem?_eq_none_iff.mpr (by omega)
def RelO:Option V→Option Value→Prop
  | some v,some u=>RelV v u
  | none,none=>True
  | _,_=>False
def KV {κ:Type}:List (κ×V)→List (κ×Value)→Prop:=Paired fun (p:κ×V) (q:κ×Value)=>p.1=q.1∧RelV p.2 q.2
def kV:bu→V
  | .inl i=> .int i
  | .inr x=> .str x
inductive HO where
  /-- a list -/
  | lst (xs:List V)
  /-- a tuple (never changes) -/
  | tup (xs:List V)
  /-- a dict whose keys are ints and texts;one whose keys are tuples of ints and texts (the empty one is both) -/
  | dK (kvs:List (bu×V)) | dT (kvs:List (List bu×V))
  /-- a set of ints:its members,its size -/
  | set (S:Int→Bool) (n:Nat)
  /-- an instance of the class at C,its dict at dx,its attributes -/
  | ins (C dx:Addr) (fs:List (Str×V))
  /-- the dict of the instance at x -/
  | own (x:Addr)
  /-- the dict of an exception -/
  | xd (fs:List (Str×V))
  /-- a bound method,f of x -/
  | met (f x:Addr)
  /-- a range object lo,lo+1, .. below hi -/
  | rng (lo hi:Int)
  /-- a thing that is known to the object (the script;a dict while a rf walks it):read,never written while it is so -/
  | frz (o:Obj) (u:HO)
  /-- a code object's table -/
  | tbl (q:Str)
  /-- any other thing,by what is true of its one object (a def of one's own:SetO a S n:=HO.ext fun h=> ..) -/
  | ext (φ:Heap→Prop)
abbrev Hp:=Addr→Option HO
def upd (H:Hp) (a:Addr) (o:HO):Hp:=fun b=>if b=a then some o else H b
theorem upd_same {H:Hp} {a:Addr} {o:HO}:upd H a o a=some o:=by unfold upd;rw [if_pos rfl]
theorem ao {H:Hp} {a b:Addr} {o:HO} (h:b≠a):upd H a o b=H b:=by unfold upd;rw [if_neg h]
theorem sR {H:Hp} {a b:Addr} {o u:HO} (h:H a=some o) (h':H b=some u) (d:o≠u):a≠b:=by
  intro e;subst e;rw [h] at h';exact d (Option.some.inj h')
theorem c7 {H:Hp} {a b:Addr} {o:HO} (h:H a=some o) (h':H b=none):a≠b:=by
  intro e;subst e;rw [h] at h';cases h'
section
variable (P:Program) (w:World)
def ObjOk (H:Hp) (h:Heap) (a:Addr):HO→Prop
  | .lst xs=>xs.length≤sizeLine∧∃(its:List Value) (n:Nat),Vals xs its∧h.get? a=some {cls:= .type "list",data:= .seq its.toArray n}
  | .tup xs=>xs.length≤sizeLine∧∃its:List Value,Vals xs its∧IsTup h a its.toArray
  | .dK kvs=>kvs.length≤sizeLine∧(a == sysModules)=false∧∃vs,KV kvs vs∧h.DictOf (aP P w) a vs
  | .dT kvs=>kvs.length≤sizeLine∧(a == sysModules)=false∧∃xs:List (List bu×Addr×Value),
      Paired (fun (p:List bu×V) (q:List bu×Addr×Value)=>p.1=q.1∧H q.2.1=some (.tup (p.1.map kV))∧RelV p.2 q.2.2) kvs xs∧
      ∃o es ep,h.get? a=some o∧o.ExactDict∧o.data= .dict es ep∧es.toList=xs.map (entryOfKey (tupleKind (aP P w)))∧(xs.map (·.1)).Nodup
  | .set S n=>h.SetOf (intKind P w) a S n
  | .ins C dx fs=>H dx=some (.own a)∧fs.length≤1000∧dx≠a∧h.get? a=some (PySem.W.instObj C dx)∧
      ∃mA,h.Ns1 dx mA∧(∀f,RelO (fs.lookup f) (mA f))∧PySem.Within mA (fs.map (·.1))
  | .own _=>∃o,h.get? a=some o
  | .xd fs=>∃mA,h.Ns1 a mA∧∀f,RelO (fs.lookup f) (mA f)
  | .rng lo hi=>∃t u v,h.get? a=some {cls:= .type "range",data:= .fields #[.int lo t, .int hi u, .int 1 v]}
  | .frz o u=>h.get? a=some o∧ObjOk H h a u
  | .tbl q=>∃ps:Array Value,h.get? a=some (PySem.W.tabObj ps)∧TriplesOk ps.toList∧∀pos cv,codeAmong pos ps.toList=some cv→∃c,cv=Value.ref c∧H c=some (.own a)∧h.CodeRec cv q
  | .met f x=>h.get? a=some (PySem.W.methodObj (.ref f) (.ref x))
  | .ext φ=>φ h∧(∃o,h.get? a=some o)∧∀h1 h2:Heap,φ h1→(∀o,h1.get? a=some o→h2.get? a=some o)→φ h2
def HOk (H:Hp) (h:Heap):Prop:=∀a o,H a=some o→ObjOk P w H h a o
end
section
variable {P:Program} {w:World} {H H':Hp} {h h':Heap} {a:Addr} {o:HO}
theorem ObjOk.lt (x:ObjOk P w H h a o):a < h.objs.size:=by
  cases o with
  | lst xs=>obtain ⟨_,_,_,_,e⟩:=x;exact Heap.lt_size e
  | tup xs=>obtain ⟨_,_,_,p⟩:=x;exact p.lt
  | dK kvs=>obtain ⟨_,_,_,_,o,_,_,e,_⟩:=x;exact Heap.lt_size e
  | dT kvs=>obtain ⟨_,_,_,_,o,_,_,e,_⟩:=x;exact Heap.lt_size e
  | set S n=>obtain ⟨o,_,_,_,e,_⟩:=x;exact Heap.lt_size e
  | ins C dx fs=>obtain ⟨_,_,_,e,_⟩:=x;exact Heap.lt_size e
  | own y=>obtain ⟨_,e⟩:=x;exact Heap.lt_size e
  | xd fs=>obtain ⟨_,⟨_,_,_,e,_⟩,_⟩:=x;exact Heap.lt_size e
  | rng lo hi=>obtain ⟨_,_,_,e⟩:=x;exact Heap.lt_size e
  | frz ob u=>obtain ⟨e,_⟩:=x;exact Heap.lt_size e
  | tbl q=>obtain ⟨_,e,_⟩:=x;exact Heap.lt_size e
  | met f y=>exact Heap.lt_size (show h.get? a=some _ from x)
  | ext φ=>obtain ⟨_,⟨_,e⟩,_⟩:=x;exact Heap.lt_size e
theorem Paired.mapP {α β:Type} {F G:α→β→Prop} {l₁:List α} {l₂:List β} (h:Paired F l₁ l₂) (f:∀a b,F a b→G a b):Paired G l₁ l₂:=by
  induction h with
  | nil=>exact .nil
  | cons r _ t=>exact .cons (f _ _ r) t
theorem ObjOk.stay (x:ObjOk P w H h a o) (k:∀b u,(b=a∨H b=some (.own a))→h.get? b=some u→h'.get? b=some u)
    (ho:∀b,H b=some (.own a)→H' b=some (.own a)) (ht:∀b xs,H b=some (.tup xs)→H' b=some (.tup xs)):ObjOk P w H' h' a o:=by
  induction o with
  | lst xs=>obtain ⟨z,its,n,r,e⟩:=x;exact ⟨z,its,n,r,k _ _ (.inl rfl) e⟩
  | tup xs=>obtain ⟨z,its,r,ob,e,c⟩:=x;exact ⟨z,its,r,ob,k _ _ (.inl rfl) e,c⟩
  | dK kvs=>obtain ⟨z,y,vs,r,ob,es,ep,e,c⟩:=x;exact ⟨z,y,vs,r,ob,es,ep,k _ _ (.inl rfl) e,c⟩
  | dT kvs=>
    obtain ⟨z,y,xs,r,ob,es,ep,e,c⟩:=x
    exact ⟨z,y,xs,Paired.mapP r fun p q z=>⟨z.1,ht _ _ z.2.1,z.2.2⟩,ob,es,ep,k _ _ (.inl rfl) e,c⟩
  | set S n=>obtain ⟨ob,es,ep,t,e,c⟩:=x;exact ⟨ob,es,ep,t,k _ _ (.inl rfl) e,c⟩
  | ins C dx fs=>
    obtain ⟨d,z,ne,e,mA,⟨od,es,ep,e2,c⟩,r⟩:=x
    exact ⟨ho _ d,z,ne,k _ _ (.inl rfl) e,mA,⟨od,es,ep,k _ _ (.inr d) e2,c⟩,r⟩
  | own y=>obtain ⟨ob,e⟩:=x;exact ⟨ob,k _ _ (.inl rfl) e⟩
  | xd fs=>obtain ⟨mA,⟨od,es,ep,e,c⟩,r⟩:=x;exact ⟨mA,⟨od,es,ep,k _ _ (.inl rfl) e,c⟩,r⟩
  | rng lo hi=>obtain ⟨t,u,v,e⟩:=x;exact ⟨t,u,v,k _ _ (.inl rfl) e⟩
  | frz ob u ih=>obtain ⟨e,q⟩:=x;exact ⟨k _ _ (.inl rfl) e,ih q⟩
  | tbl q=>
    obtain ⟨ps,e,t,r⟩:=x
    refine ⟨ps,k _ _ (.inl rfl) e,t,fun pos cv z=>?_⟩
    obtain ⟨c,ec,ho',c2,oc,vs,tq,hc,hoc,hd⟩:=r pos cv z
    subst ec
    cases hc
    exact ⟨c,rfl,ho _ ho',c,oc,vs,tq,rfl,k _ _ (.inr ho') hoc,hd⟩
  | met f y=>
    have e:h.get? a=some (PySem.W.methodObj (.ref f) (.ref y)):=x
    show h'.get? a=some (PySem.W.methodObj (.ref f) (.ref y))
    exact k a _ (.inl rfl) e
  | ext φ=>obtain ⟨p,⟨o,e⟩,st⟩:=x;exact ⟨st _ _ p fun o q=>k _ _ (.inl rfl) q,⟨o,k _ _ (.inl rfl) e⟩,st⟩
theorem HOk.lt (x:HOk P w H h) (e:H a=some o):a < h.objs.size:=(x a o e).lt
theorem HOk.fresh (x:HOk P w H h) (e:h.objs.size≤a):H a=none:=by
  cases q:H a with
  | none=>rfl
  | some u=>exact absurd (Nat.lt_of_lt_of_le (x.lt q) e) (Nat.lt_irrefl _)
theorem HOk.kept (x:HOk P w H h) (k:∀b u,h.get? b=some u→h'.get? b=some u):HOk P w H h':=fun a o e=>
  (x a o e).stay (fun b u _ q=>k b u q) (fun _ q=>q) fun _ _ q=>q
theorem HOk.laid (x:HOk P w H h) (k:∀b u,h.get? b=some u→h'.get? b=some u) (hp:h.objs.size≤a) (new:ObjOk P w (upd H a o) h' a o):HOk P w (upd H a o) h':=fun b u e=>by
  have hn:=x.fresh hp
  by_cases hb:b=a
  · subst hb;rw [upd_same] at e;cases e;exact new
  · rw [ao hb] at e
    exact (x b u e).stay (fun c v _ q=>k c v q) (fun c q=>by rw [ao (c7 q hn)];exact q) fun c xs q=>by rw [ao (c7 q hn)];exact q
end
def Rd (H:Hp) (a:Addr) (u:HO):Prop:=H a=some u∨∃o,H a=some (.frz o u)
theorem Rd.of {H:Hp} {a:Addr} {u:HO} (h:H a=some u):Rd H a u:= .inl h
theorem Rd.ok {P:Program} {w:World} {H:Hp} {h:Heap} {a:Addr} {u:HO} (r:Rd H a u) (x:HOk P w H h):ObjOk P w H h a u:=by
  rcases r with r | ⟨o,r⟩
  · exact x a u r
  · obtain ⟨_,q⟩:=x a _ r
    exact q
def y9:Option HO→Prop
  | some (.lst _)=>True
  | some (.dK _)=>True
  | some (.dT _)=>True
  | some (.set _ _)=>True
  | some (.ins _ _ _)=>True
  | some (.ext _)=>True
  | _=>False
section
variable {P:Program} {w:World} {H:Hp} {h h':Heap} {x e:Addr} {o':HO}
theorem HOk.write (ok:HOk P w H h) (mu:y9 (H x)) (he:e=x∨H e=some (.own x)) (k:∀b u,b≠e→h.get? b=some u→h'.get? b=some u) (heo:∃u,h'.get? e=some u)
    (new:ObjOk P w (upd H x o') h' x o'):HOk P w (upd H x o') h':=fun b u q=>by
  have nown:∀c y,H c=some (.own y)→c≠x:=fun c y r z=>by subst z;rw [r] at mu;exact mu
  have ntup:∀c xs,H c=some (.tup xs)→c≠x:=fun c xs r z=>by subst z;rw [r] at mu;exact mu
  by_cases hb:b=x
  · subst hb;rw [upd_same] at q;cases q;exact new
  · rw [ao hb] at q
    by_cases hbe:b=e
    · have q':H b=some (.own x):=by
        rcases he with z | z
        · exact absurd (hbe.trans z) hb
        · rw [hbe];exact z
      rw [q] at q';cases q'
      obtain ⟨v,hv⟩:=heo
      exact ⟨v,by rw [hbe];exact hv⟩
    · refine (ok b u q).stay (fun c v hc r=>k c v ?_ r) (fun c r=>by rw [ao (nown c b r)];exact r) fun c xs r=>by rw [ao (ntup c xs r)];exact r
      rcases hc with rfl | hc
      · exact hbe
      · rintro rfl
        rcases he with z | z
        · exact nown c b hc z
        · rw [hc] at z;cases z;exact hb rfl
end
structure Un (fs ex:List Addr) (H H':Hp) (h h':Heap):Prop where
  keep:∀b o,h.get? b=some o→H b=none→b∉fs→b∉ex→h'.get? b=some o
  slot:∀b o,h.get? b=some o→H b=none→b∈fs→b∉ex→∃sl,h'.get? b=some {o with slots:=sl}
  free:∀b o,h.get? b=some o→H b=none→b∉ex→H' b=none
  there:∀b o,h.get? b=some o→b∉ex→∃o',h'.get? b=some o'
  tups:∀b xs,H b=some (.tup xs)→H' b=some (.tup xs)
  frzs:∀b o u,H b=some (.frz o u)→H' b=some (.frz o u)
  tbls:∀b ps,H b=some (.tbl ps)→H' b=some (.tbl ps)
section
variable {fs fs' ex ex':List Addr} {H H1 H2:Hp} {h h1 h2 h':Heap} {a x e:Addr} {o:HO}
theorem Un.any (u:Un fs ex H H1 h h1) {b:Addr} {ob:Obj} (q:h.get? b=some ob) (n:H b=none) (hx:b∉ex):∃sl,h1.get? b=some {ob with slots:=sl}:=by
  by_cases hb:b∈fs
  · exact u.slot b ob q n hb hx
  · exact ⟨ob.slots,u.keep b ob q n hb hx⟩
theorem Un.trans (a:Un fs ex H H1 h h1) (b:Un fs ex H1 H2 h1 h2):Un fs ex H H2 h h2 where
  keep:=fun c ob q n hc hx=>b.keep c ob (a.keep c ob q n hc hx) (a.free c ob q n hx) hc hx
  slot:=fun c ob q n hc hx=>by
    obtain ⟨sl,e1⟩:=a.slot c ob q n hc hx
    obtain ⟨sl',e2⟩:=b.slot c _ e1 (a.free c ob q n hx) hc hx
    exact ⟨sl',e2⟩
  free:=fun c ob q n hx=>by
    obtain ⟨o',e1⟩:=a.there c ob q hx
    exact b.free c o' e1 (a.free c ob q n hx) hx
  there:=fun c ob q hx=>by
    obtain ⟨o',e1⟩:=a.there c ob q hx
    exact b.there c o' e1 hx
  tups:=fun c xs q=>b.tups c xs (a.tups c xs q)
  frzs:=fun c ob xs q=>b.frzs c ob xs (a.frzs c ob xs q)
  tbls:=fun c ps q=>b.tbls c ps (a.tbls c ps q)
theorem Un.kept (k:∀b u,h.get? b=some u→h'.get? b=some u):Un fs ex H H h h':=
  ⟨fun b ob q _ _ _=>k b ob q,fun b ob q _ _ _=>⟨ob.slots,k b ob q⟩,fun _ _ _ n _=>n,fun b ob q _=>⟨ob,k b ob q⟩,fun _ _ q=>q,fun _ _ _ q=>q,fun _ _ q=>q⟩
theorem Un.refl:Un fs ex H H h h:=Un.kept fun _ _ q=>q
theorem Un.laid (k:∀b u,h.get? b=some u→h'.get? b=some u) (hp:h.objs.size≤a) (hn:H a=none):Un fs ex H (upd H a o) h h' where
  keep:=fun b u q _ _ _=>k b u q
  slot:=fun b u q _ _ _=>⟨u.slots,k b u q⟩
  free:=fun b u q n _=>by rw [ao (Nat.ne_of_lt (Nat.lt_of_lt_of_le (Heap.lt_size q) hp))];exact n
  there:=fun b u q _=>⟨u,k b u q⟩
  tups:=fun b xs q=>by rw [ao (c7 q hn)];exact q
  frzs:=fun b u xs q=>by rw [ao (c7 q hn)];exact q
  tbls:=fun b ps q=>by rw [ao (c7 q hn)];exact q
theorem Un.write (mu:y9 (H x)) (he:e=x∨H e=some (.own x)) (k:∀b u,b≠e→h.get? b=some u→h'.get? b=some u) (heo:∃u,h'.get? e=some u):Un fs ex H (upd H x o) h h':=by
  have hx:∀b,H b=none→b≠x:=fun b n z=>by subst z;rw [n] at mu;exact mu
  have hb:∀b,H b=none→b≠e:=fun b n z=>by
    subst z
    rcases he with r | r
    · exact hx b n r
    · rw [n] at r;cases r
  have hm:∀b u,H b=some u→¬y9 (some u)→b≠x:=fun b u q nm z=>by subst z;rw [q] at mu;exact nm mu
  refine ⟨fun b u q n _ _=>k b u (hb b n) q,fun b u q n _ _=>⟨u.slots,k b u (hb b n) q⟩,fun b u q n _=>by rw [ao (hx b n)];exact n,fun b u q _=>?_,
    fun b xs q=>by rw [ao (hm b _ q fun z=>z)];exact q,fun b u xs q=>by rw [ao (hm b _ q fun z=>z)];exact q,fun b ps q=>by rw [ao (hm b _ q fun z=>z)];exact q⟩
  by_cases hbe:b=e
  · subst hbe;exact heo
  · exact ⟨u,k b u hbe q⟩
theorem Un.mono (u:Un fs ex H H1 h h1) (hs:∀b∈fs,b∈fs') (hx:∀b∈ex,b∈ex'):Un fs' ex' H H1 h h1:=
  ⟨fun b ob q n hb he=>u.keep b ob q n (fun z=>hb (hs b z)) fun z=>he (hx b z),fun _ _ q n _ he=>u.any q n fun z=>he (hx _ z),fun b ob q n he=>u.free b ob q n fun z=>he (hx b z),fun b ob q he=>u.there b ob q fun z=>he (hx b z),u.tups,u.frzs,u.tbls⟩
end
def Ak (h:Heap) (H:Hp):List Addr:=(List.range h.objs.size).filter fun a=>(H a).isSome
def mR (h:Heap) (H:Hp):Heap:=PySem.W.hideAll h (Ak h H)
theorem rh (h:Heap) (H:Hp):(mR h H).objs.size=h.objs.size:=PySem.W.hideAll_size _ _
theorem ju {h:Heap} {H:Hp} {b:Addr} {o:Obj} (e:h.get? b=some o) (n:H b=none):(mR h H).get? b=some o:=
  PySem.W.hideAll_get _ e fun hm=>by
    have q:(H b).isSome=true:=(List.mem_filter.mp hm).2
    rw [n] at q;simp at q
theorem vk {h:Heap} {H:Hp} {b:Addr} {o:Obj} (e:(mR h H).get? b=some o):h.get? b=some o∧H b=none:=by
  have e':h.get? b=some o:=PySem.W.of_hideAll (Ak h H) e
  refine ⟨e',?_⟩
  cases q:H b with
  | none=>rfl
  | some x=>
    have hm:b∈Ak h H:=List.mem_filter.mpr ⟨List.mem_range.mpr (Heap.lt_size e'),by simp [q]⟩
    have z:(mR h H).get? b=none:=PySem.W.hideAll_none (Ak h H) hm
    rw [z] at e;cases e
def vm (g h:Heap) (L:Addr):List (Addr×Obj):=(List.range h.objs.size).filterMap fun a=>if a=L∨(g.get? a).isSome=true then none else (h.get? a).map fun o=>(a,o)
def bO (g h:Heap) (L d:Addr):List (Addr×Obj):=(vm g h L).filter fun p=>decide (p.1≠d)
end L2
namespace L2
open PySem PySem.Spec PyProof.Rows
def y_ (K:PySem.W.Frag):Option Addr:=match PySem.W.nsIn K mainGlobals "in_told_order" with
  | some (some (.ref f))=>match K.lookup f with
    | some ⟨_,_, .func fd,_⟩=>match fd.code with
      | .ref c=>match K.lookup c with
        | some ⟨_,_, .fields vs,_⟩=>match (vs[11]? :Option Value) with
          | some (.ref P)=>some P
          | _=>none
        | _=>none
      | _=>none
    | _=>none
  | _=>none
def jv (K:PySem.W.Frag) (b:Addr):Option Str:=if y_ K=some b then some (Str.ofString "in_told_order.<locals>.<lambda>") else none
structure Mod (K:PySem.W.Frag) (mg:Str→Option Value) (base:Heap):Prop where
  kin:K.In base
  glob:base.Ns mainGlobals mg
  blt:∃mb,base.Ns builtinsNs mb∧∀x:Str,x≠"__name__"→mb x=bootBuiltins x
  nolimit:base.NoLimit
  bmain:∃bm ob,mg "__builtins__"=some (.ref bm)∧bm≠builtinsNs∧base.get? bm=some ob∧ob.cls= .type "module"∧ob.dict=some builtinsNs∧ob.data= .plain
structure Cx where
  prog:Program
  w:World
  K:PySem.W.Frag
  mg:Str→Option Value
  base:Heap
  A:Around
  N:List Str
  s₀:Shared
  H₀:Hp
  env:Env
  outer:List Env
  stack:List Env
  ex:List Addr
  fn:Str→Bool
  calm:Bool
  pn:List (Addr×Obj)
  xe:Value→Shared→Prop
def sN (l:List Env):List Addr:=l.filterMap (·.frame)
abbrev Cx.fs (X:Cx):List Addr:=sN X.outer
def xt (sc:Scope) (x:Str):Prop:=sc.names.lookup x=some .local∨sc.names.lookup x=some .cell∨sc.names.lookup x=some .free
def xu (sc:Scope) (x:Str):Prop:=sc.names.lookup x=some .local∨sc.names.lookup x=some .cell
def Av (env:Env) (h:Heap) (m:Str→Option Value) (x:Str) (u:Value):Prop:=
  (env.kindOf x=some .local∧m x=some u)∨((env.kindOf x=some .cell∨env.kindOf x=some .free)∧∃c,env.cells.lookup x=some c∧h.IsCell c (some u))
structure Cx.Ok (X:Cx):Prop where
  mod:Mod X.K X.mg X.base
  kind:X.env.scope.kind= .function
  glob:X.env.globals=mainGlobals
  blt:X.env.builtins=builtinsNs
  above:X.s₀.heap.objs.size≤X.env.locals
  inj:∀x y c,X.env.cells.lookup x=some c→X.env.cells.lookup y=some c→x=y
  has:∀x,(X.env.kindOf x=some .cell∨X.env.kindOf x=some .free)→∃c,X.env.cells.lookup x=some c
  cab:∀x c,X.fn x=true→X.env.cells.lookup x=some c→X.s₀.heap.objs.size≤c
  hd:X.calm=true→X.A.handled=none
  frames:X.A.frames=some X.stack
  stk:X.stack=X.outer∨(X.stack=X.env::X.outer∧X.env.frame=some X.env.locals)
  exf:∀b∈X.ex,b≠X.env.locals∧∀x c,X.env.cells.lookup x=some c→c≠b
  bs:∀b o,X.base.get? b=some o→X.s₀.heap.get? b=some o∧X.H₀ b=none
  bsz:X.base.objs.size≤X.s₀.heap.objs.size
  noex:∀b o,X.base.get? b=some o→b∉X.ex
  exfs:∀b∈X.ex,b∉X.fs
  funs:X.s₀.heap.FunFrames X.base X.outer
  frf:∀b∈X.fs,X.H₀ b=none
  tab:∀b q,jv X.K b=some q→X.H₀ b=some (.tbl q)
structure Inv (X:Cx) (pins:List (Addr×Obj)) (σ:List (Option V)) (H:Hp) (s:Shared):Prop where
  ok:X.Ok
  os:s.os=X.s₀.os
  bare:AllBare s.gens
  base:Un X.fs X.ex X.H₀ H X.s₀.heap s.heap
  loc:∃m,s.heap.Ns X.env.locals m∧∀(i:Nat) (x:Str) (v:V),X.N[i]? =some x→σ[i]? =some (some v)→xt X.env.scope x→∃u,RelV v u∧Av X.env s.heap m x u
  cell:∀x c,X.env.cells.lookup x=some c→∃v,s.heap.IsCell c v
  free:H X.env.locals=none
  freeC:∀x c,X.env.cells.lookup x=some c→H c=none
  pin:∀p∈X.pn++pins,s.heap.get? p.1=some p.2∧H p.1=none∧p.1≠X.env.locals∧p.1∉X.fs∧∀v,p.2.data≠ .cell v
  hok:HOk X.prog X.w H s.heap
  len:σ.length=X.N.length
section
variable {X:Cx} {pins:List (Addr×Obj)} {σ:List (Option V)} {H H':Hp} {s:Shared} {h':Heap}
theorem Cx.Ok.nofr (ok:X.Ok) {b:Addr} {o:Obj} (e:X.base.get? b=some o):b∉X.fs:=fun hb=>by
  have:=(ok.funs.mem hb).1
  rw [e] at this;cases this
theorem Inv.bs (I:Inv X pins σ H s):∀b o,X.base.get? b=some o→s.heap.get? b=some o∧H b=none:=fun b o e=>
  ⟨I.base.keep b o (I.ok.bs b o e).1 (I.ok.bs b o e).2 (I.ok.nofr e) (I.ok.noex b o e),I.base.free b o (I.ok.bs b o e).1 (I.ok.bs b o e).2 (I.ok.noex b o e)⟩
theorem Inv.bk (I:Inv X pins σ H s):∀b o,X.base.get? b=some o→s.heap.get? b=some o:=fun b o e=>(I.bs b o e).1
theorem Inv.mod (I:Inv X pins σ H s):Mod X.K X.mg X.base:=I.ok.mod
theorem Inv.tab (I:Inv X pins σ H s):∀b q,jv X.K b=some q→H b=some (.tbl q):=fun b q e=>I.base.tbls b q (I.ok.tab b q e)
theorem Inv.kIn (I:Inv X pins σ H s):X.K.In s.heap:=I.ok.mod.kin.keeps I.bk
theorem Inv.nolimit (I:Inv X pins σ H s):s.heap.NoLimit:=I.ok.mod.nolimit.keeps I.bk
theorem Inv.fr (I:Inv X pins σ H s):∃m,Fr X.base X.env.locals s.heap m:=
  let ⟨m,hn,_⟩:=I.loc
  ⟨m,hn,I.bk,Nat.le_trans I.ok.bsz I.ok.above⟩
theorem Inv.lt (I:Inv X pins σ H s):X.env.locals < s.heap.objs.size:=let ⟨_,hn,_⟩:=I.loc;hn.lt
theorem Inv.sz (I:Inv X pins σ H s):X.s₀.heap.objs.size≤s.heap.objs.size:=Nat.le_trans I.ok.above (Nat.le_of_lt I.lt)
theorem Inv.nofs (I:Inv X pins σ H s) {a:Addr} (h:s.heap.objs.size≤a):a∉X.fs:=fun hb=>by
  obtain ⟨_,o,ho,_⟩:=I.ok.funs.mem hb
  exact absurd (Nat.lt_of_lt_of_le (Heap.lt_size ho) (Nat.le_trans I.sz h)) (Nat.lt_irrefl _)
theorem Inv.cne (I:Inv X pins σ H s):∀x c,X.env.cells.lookup x=some c→c≠X.env.locals:=fun x c e z=>by
  obtain ⟨v,o,ho,hd⟩:=I.cell x c e
  obtain ⟨m,⟨o',es,ep,ho',hd',_⟩,_⟩:=I.loc
  rw [z,ho'] at ho;cases ho;rw [hd'] at hd;cases hd
theorem Inv.funs (I:Inv X pins σ H s):s.heap.FunFrames X.base X.outer:=by
  have all:∀(l:List Env),(∀b∈sN l,b∈X.fs)→X.s₀.heap.FunFrames X.base l→s.heap.FunFrames X.base l:=by
    intro l
    induction l with
    | nil=>intro _ _;trivial
    | cons env r ih=>
      intro hs hl
      obtain ⟨hk,⟨L,o,hf,hn,ho,hd⟩,hr⟩:=hl
      have hL:L∈X.fs:=hs L (by unfold sN;rw [List.filterMap_cons,hf];exact List.mem_cons_self)
      obtain ⟨sl,e⟩:=I.base.slot L o ho (I.ok.frf L hL) hL fun z=>I.ok.exfs L z hL
      exact ⟨hk,⟨L,_,hf,hn,e,hd⟩,ih (fun b hb=>hs b (by unfold sN;rw [List.filterMap_cons,hf];exact List.mem_cons_of_mem _ hb)) hr⟩
  exact all X.outer (fun _ hb=>hb) I.ok.funs
theorem Inv.stack (I:Inv X pins σ H s):s.heap.FunFrames X.base X.stack:=by
  rcases I.ok.stk with e | ⟨e,hf⟩
  · rw [e];exact I.funs
  · rw [e]
    obtain ⟨m,hn,_⟩:=I.loc
    refine .cons (by rw [I.ok.kind];decide) hf hn ?_ I.funs
    exact Heap.get?_none_of_le (Nat.le_trans I.ok.bsz I.ok.above)
theorem Inv.stkSub (I:Inv X pins σ H s):∀b∈sN X.stack,b∈X.env.locals::X.fs:=fun b hb=>by
  rcases I.ok.stk with e | ⟨e,hf⟩
  · rw [e] at hb;exact List.mem_cons_of_mem _ hb
  · rw [e] at hb
    unfold sN at hb
    rw [List.filterMap_cons,hf] at hb
    exact hb
theorem Inv.stkFree (I:Inv X pins σ H s):∀b∈sN X.stack,H b=none:=fun b hb=>by
  rcases List.mem_cons.mp (I.stkSub b hb) with e | hb
  · rw [e];exact I.free
  · obtain ⟨_,o,ho,_⟩:=I.ok.funs.mem hb
    exact I.base.free b o ho (I.ok.frf b hb) fun z=>I.ok.exfs b z hb
theorem Inv.step {g':Array GenState} {t':Nat} {d':Drawn} {ch:List Addr} (I:Inv X pins σ H s)
    (hch:∀b∈ch,(b∈X.ex∨X.s₀.heap.objs.size≤b)∧b≠X.env.locals∧(∀x c,X.env.cells.lookup x=some c→c≠b)∧∀p∈X.pn++pins,p.1≠b)
    (keep:∀b o,b≠X.env.locals→b∉X.fs→b∉ch→s.heap.get? b=some o→H b=none→h'.get? b=some o)
    (slot:∀b o,b≠X.env.locals→b∈X.fs→b∉ch→s.heap.get? b=some o→H b=none→∃sl,h'.get? b=some {o with slots:=sl}) (free:∀b o,b∉ch→s.heap.get? b=some o→H b=none→H' b=none)
    (there:∀b o,b∉ch→s.heap.get? b=some o→∃o',h'.get? b=some o')
    (tups:∀b xs,H b=some (.tup xs)→H' b=some (.tup xs)) (frzs:∀b o u,H b=some (.frz o u)→H' b=some (.frz o u)) (tbls:∀b ps,H b=some (.tbl ps)→H' b=some (.tbl ps))
    (ns:∀m,s.heap.Ns X.env.locals m→h'.Ns X.env.locals m) (hok:HOk X.prog X.w H' h') (hg:AllBare g'):
    Inv X pins σ H' {s with heap:=h',gens:=g',drawn:=d',toks:=t'}:=by
  have neL:∀b o,X.s₀.heap.get? b=some o→b≠X.env.locals:=fun b o e=>Nat.ne_of_lt (Nat.lt_of_lt_of_le (Heap.lt_size e) I.ok.above)
  have neC:∀b o,X.s₀.heap.get? b=some o→b∉X.ex→b∉ch:=fun b o e hx hb=>by
    rcases (hch b hb).1 with z | z
    · exact hx z
    · exact absurd (Nat.lt_of_lt_of_le (Heap.lt_size e) z) (Nat.lt_irrefl _)
  have cellK:∀x c,X.env.cells.lookup x=some c→∀v,s.heap.IsCell c v→h'.IsCell c v:=fun x c e v ⟨o,ho,hd⟩=>by
    have nch:c∉ch:=fun z=>(hch c z).2.2.1 x c e rfl
    by_cases hc:c∈X.fs
    · obtain ⟨sl,q⟩:=slot c o (I.cne x c e) hc nch ho (I.freeC x c e)
      exact ⟨_,q,hd⟩
    · exact ⟨o,keep c o (I.cne x c e) hc nch ho (I.freeC x c e),hd⟩
  refine ⟨I.ok,I.os,hg,⟨fun b o e n hb hx=>?_,fun b o e n hb hx=>?_,fun b o e n hx=>?_,fun b o e hx=>?_,fun b xs e=>tups b xs (I.base.tups b xs e),fun b o xs e=>frzs b o xs (I.base.frzs b o xs e),fun b ps e=>?_⟩,?_,fun x c e=>?_,?_,fun x c e=>?_,fun p hp=>?_,hok,I.len⟩
  · exact keep b o (neL b o e) hb (neC b o e hx) (I.base.keep b o e n hb hx) (I.base.free b o e n hx)
  · obtain ⟨sl,e1⟩:=I.base.slot b o e n hb hx
    obtain ⟨sl',e2⟩:=slot b _ (neL b o e) hb (neC b o e hx) e1 (I.base.free b o e n hx)
    exact ⟨sl',e2⟩
  · obtain ⟨o',e1⟩:=I.base.there b o e hx
    exact free b o' (neC b o e hx) e1 (I.base.free b o e n hx)
  · obtain ⟨o',e1⟩:=I.base.there b o e hx
    exact there b o' (neC b o e hx) e1
  · exact tbls b _ (I.base.tbls b ps e)
  · obtain ⟨m,hn,hl⟩:=I.loc
    refine ⟨m,ns m hn,fun i x v e1 e2 e3=>?_⟩
    obtain ⟨u,r,l⟩:=hl i x v e1 e2 e3
    refine ⟨u,r,?_⟩
    rcases l with l | ⟨k,c,e,z⟩
    · exact .inl l
    · exact .inr ⟨k,c,e,cellK x c e _ z⟩
  · obtain ⟨v,z⟩:=I.cell x c e
    exact ⟨v,cellK x c e v z⟩
  · obtain ⟨m,⟨o,_,_,ho,_⟩,_⟩:=I.loc
    exact free _ o (fun z=>(hch _ z).2.1 rfl) ho I.free
  · obtain ⟨v,o,ho,hd⟩:=I.cell x c e
    exact free c o (fun z=>(hch c z).2.2.1 x c e rfl) ho (I.freeC x c e)
  · obtain ⟨e,n,ne,nf,d⟩:=I.pin p hp
    have nch:p.1∉ch:=fun z=>(hch p.1 z).2.2.2 p hp rfl
    exact ⟨keep p.1 p.2 ne nf nch e n,free p.1 p.2 nch e n,ne,nf,d⟩
theorem Inv.un {t':Nat} (I:Inv X pins σ H s) (u:Un X.fs [] H H' s.heap h') (hok:HOk X.prog X.w H' h'):Inv X pins σ H' {s with heap:=h',toks:=t'}:=by
  obtain ⟨m,⟨o,es,ep,ho,r⟩,_⟩:=id I.loc
  obtain ⟨sl,hL⟩:=u.any ho I.free (by simp)
  exact I.step (g':=s.gens) (d':=s.drawn) (ch:=[]) (fun _ z=>nomatch z) (fun b o _ hb _ e n=>u.keep b o e n hb (by simp)) (fun b o _ hb _ e n=>u.slot b o e n hb (by simp)) (fun b o _ e n=>u.free b o e n (by simp)) (fun b o _ e=>u.there b o e (by simp)) u.tups u.frzs u.tbls (fun m' hm=>by
    obtain ⟨o',es',ep',ho',r'⟩:=hm
    rw [ho] at ho';cases ho'
    exact ⟨_,es',ep',hL,r'⟩) hok I.bare
theorem Inv.call {g':Array GenState} {t':Nat} {d':Drawn} {ch:List Addr} (I:Inv X pins σ H s) (u:Un (sN X.stack) ch H H' s.heap h') (hok:HOk X.prog X.w H' h') (hg:AllBare g')
    (hch:∀b∈ch,(b∈X.ex∨X.s₀.heap.objs.size≤b)∧b≠X.env.locals∧(∀x c,X.env.cells.lookup x=some c→c≠b)∧∀p∈X.pn++pins,p.1≠b):
    Inv X pins σ H' {s with heap:=h',gens:=g',drawn:=d',toks:=t'}:=by
  obtain ⟨m,⟨o,es,ep,ho,r⟩,_⟩:=id I.loc
  obtain ⟨sl,hL⟩:=u.any ho I.free fun z=>(hch _ z).2.1 rfl
  exact I.step (ch:=ch) hch (fun b o hL hb hc e n=>u.keep b o e n (fun z=>(List.mem_cons.mp (I.stkSub b z)).elim hL hb) hc) (fun b o _ _ hc e n=>u.any e n hc) (fun b o hc e n=>u.free b o e n hc) (fun b o hc e=>u.there b o e hc) u.tups u.frzs u.tbls (fun m' hm=>by
    obtain ⟨o',es',ep',ho',r'⟩:=hm
    rw [ho] at ho';cases ho'
    exact ⟨_,es',ep',hL,r'⟩) hok hg
theorem Inv.turned {t':Nat} {it:Addr} (I:Inv X pins σ H s) (k:∀b o,b≠it→s.heap.get? b=some o→h'.get? b=some o) (hn:H it=none) (hL:it≠X.env.locals)
    (h1:it∈X.ex∨X.s₀.heap.objs.size≤it) (h2:∀x c,X.env.cells.lookup x=some c→c≠it) (h3:∀p∈X.pn++pins,p.1≠it):Inv X pins σ H {s with heap:=h',toks:=t'}:=by
  have nit:∀b u,H b=some u→b≠it:=fun b u e z=>by rw [z,hn] at e;cases e
  refine I.step (g':=s.gens) (d':=s.drawn) (ch:=[it]) (fun b hb=>?_) (fun b o _ _ hc e _=>k b o (fun z=>hc (by simp [z])) e) (fun b o _ _ hc e _=>⟨o.slots,k b o (fun z=>hc (by simp [z])) e⟩) (fun _ _ _ _ n=>n)
    (fun b o hc e=>⟨o,k b o (fun z=>hc (by simp [z])) e⟩) (fun _ _ e=>e) (fun _ _ _ e=>e) (fun _ _ e=>e) (fun m hm=>?_) (fun b u e=>?_) I.bare
  · have e:b=it:=by simpa using hb
    subst e
    exact ⟨h1,hL,h2,h3⟩
  · obtain ⟨o,es,ep,ho,r⟩:=hm
    exact ⟨o,es,ep,k _ o (Ne.symm hL) ho,r⟩
  · refine (I.hok b u e).stay (fun c v hc q=>k c v ?_ q) (fun _ q=>q) fun _ _ q=>q
    rcases hc with z | z
    · rw [z];exact nit b u e
    · exact nit c _ z
theorem Inv.tok (I:Inv X pins σ H s) (t:Nat):Inv X pins σ H {s with toks:=t}:=I.un (h':=s.heap) (t':=t) Un.refl I.hok
theorem Inv.kept {t':Nat} (I:Inv X pins σ H s) (k:∀b u,s.heap.get? b=some u→h'.get? b=some u):Inv X pins σ H {s with heap:=h',toks:=t'}:=I.un (Un.kept k) (I.hok.kept k)
theorem Inv.laid {a:Addr} {o:HO} {t':Nat} (I:Inv X pins σ H s) (k:∀b u,s.heap.get? b=some u→h'.get? b=some u) (hp:s.heap.objs.size≤a) (new:ObjOk X.prog X.w (upd H a o) h' a o):
    Inv X pins σ (upd H a o) {s with heap:=h',toks:=t'}:=I.un (Un.laid k hp (I.hok.fresh hp)) (I.hok.laid k hp new)
theorem Inv.write {x e:Addr} {o:HO} {t':Nat} (I:Inv X pins σ H s) (mu:y9 (H x)) (he:e=x∨H e=some (.own x)) (k:∀b u,b≠e→s.heap.get? b=some u→h'.get? b=some u) (heo:∃u,h'.get? e=some u)
    (new:ObjOk X.prog X.w (upd H x o) h' x o):Inv X pins σ (upd H x o) {s with heap:=h',toks:=t'}:=I.un (Un.write mu he k heo) (I.hok.write mu he k heo new)
theorem Inv.pins_of {pins':List (Addr×Obj)} (I:Inv X pins σ H s) (h:∀p∈pins',s.heap.get? p.1=some p.2∧H p.1=none∧p.1≠X.env.locals∧p.1∉X.fs∧∀v,p.2.data≠ .cell v):Inv X pins' σ H s:=
  ⟨I.ok,I.os,I.bare,I.base,I.loc,I.cell,I.free,I.freeC,fun p hp=>(List.mem_append.mp hp).elim (fun z=>I.pin p (List.mem_append_left _ z)) (h p),I.hok,I.len⟩
theorem mS {N:List Str} (hN:N.Nodup) {i j:Nat} {x:Str} (a:N[i]? =some x) (b:N[j]? =some x):i=j:=by
  obtain ⟨h1,e1⟩:=List.getElem?_eq_some_iff.mp a
  obtain ⟨h2,e2⟩:=List.getElem?_eq_some_iff.mp b
  exact (List.getElem_inj hN).mp (e1.trans e2.symm)
theorem rj {M:Model} {A:Around} {E:Value→Shared→Prop} {i:Nat} {x:Str} {v:V} {u:Value} {Q:Unit→Shared→Prop} (I:Inv X pins σ H s) (hN:X.N.Nodup) (hi:X.N[i]? =some x) (hx:xu X.env.scope x) (r:RelV v u)
    (h:∀s',Inv X pins (σ.set i (some v)) H s'→(∃a,Heap.SameBut a s.heap s'.heap∧(a=X.env.locals∨X.env.cells.lookup x=some a))→Q () s') (hf:X.fn x=true∨X.env.scope.names.lookup x=some .local:=by first | exact .inl rfl | exact .inr rfl | assumption):wpAny M A (storeName X.env x u) Q E s:=by
  obtain ⟨m,hn,hl⟩:=id I.loc
  have hcls:(X.env.scope.kind == .class||(X.env.scope.kind == .module&&X.env.locals != X.env.globals))=false:=by rw [I.ok.kind];rfl
  have hiσ:i < σ.length:=by rw [I.len];exact (List.getElem?_eq_some_iff.mp hi).1
  have cne:=I.cne
  have tracked:∀{a:Addr} {h':Heap},(∃o,s.heap.get? a=some o∧H a=none)→Heap.SameBut a s.heap h'→HOk X.prog X.w H h':=fun {a h'} ha hs b ob e=>by
    obtain ⟨_,_,hfree⟩:=ha
    refine (I.hok b ob e).stay (fun c w' hc q=>(hs.2 c ?_).trans q) (fun _ q=>q) fun _ _ q=>q
    rintro rfl
    rcases hc with rfl | hc
    · rw [hfree] at e;cases e
    · rw [hfree] at hc;cases hc
  rcases hx with hk | hk
  · refine wpAny_storeName_local hk hn (fun h' hn' hs=>?_) hcls
    obtain ⟨oL,_,_,hoL,_⟩:=id hn
    refine h _ ⟨I.ok,I.os,I.bare,⟨fun b o e n hb hx=>?_,fun b o e n hb hx=>?_,I.base.free,fun b o e hx=>?_,I.base.tups,I.base.frzs,I.base.tbls⟩,⟨_,hn',fun j y v' e1 e2 e3=>?_⟩,fun y c e=>?_,I.free,I.freeC,fun p hp=>?_,tracked ⟨oL,hoL,I.free⟩ hs,by simpa using I.len⟩ ⟨_,hs, .inl rfl⟩
    · exact (hs.2 b (Nat.ne_of_lt (Nat.lt_of_lt_of_le (Heap.lt_size e) I.ok.above))).trans (I.base.keep b o e n hb hx)
    · obtain ⟨sl,e1⟩:=I.base.slot b o e n hb hx
      exact ⟨sl,(hs.2 b (Nat.ne_of_lt (Nat.lt_of_lt_of_le (Heap.lt_size e) I.ok.above))).trans e1⟩
    · obtain ⟨o',e1⟩:=I.base.there b o e hx
      exact ⟨o',(hs.2 b (Nat.ne_of_lt (Nat.lt_of_lt_of_le (Heap.lt_size e) I.ok.above))).trans e1⟩
    · by_cases hj:j=i
      · subst hj
        rw [hi] at e1;cases e1
        rw [List.getElem?_set_self hiσ] at e2
        cases e2
        exact ⟨u,r, .inl ⟨hk,by simp⟩⟩
      · rw [List.getElem?_set_ne (Ne.symm hj)] at e2
        obtain ⟨u',r',q⟩:=hl j y v' e1 e2 e3
        refine ⟨u',r',?_⟩
        rcases q with ⟨k,e⟩ | ⟨k,c,e,z⟩
        · refine .inl ⟨k,?_⟩
          have:y≠x:=fun e=>hj (mS hN e1 (e▸hi))
          simp [this,e]
        · exact .inr ⟨k,c,e,z.sameBut hs (cne y c e)⟩
    · obtain ⟨w',z⟩:=I.cell y c e
      exact ⟨w',z.sameBut hs (cne y c e)⟩
    · obtain ⟨e,n,ne,nf,d⟩:=I.pin p hp
      exact ⟨(hs.2 p.1 ne).trans e,n,ne,nf,d⟩
  · have hfn:X.fn x=true:=by
      rcases hf with z | z
      · exact z
      · rw [z] at hk;cases hk
    obtain ⟨c,hc⟩:=I.ok.has x (.inl hk)
    obtain ⟨w',z⟩:=I.cell x c hc
    refine wpAny_storeName_cell I.ok.kind hk hc z (fun h' hc' hs=>?_)
    obtain ⟨oc,hoc,hocd⟩:=id z
    refine h {s with heap:=h'} ⟨I.ok,I.os,I.bare,⟨fun b o e n hb hx=>?_,fun b o e n hb hx=>?_,I.base.free,fun b o e hx=>?_,I.base.tups,I.base.frzs,I.base.tbls⟩,⟨m,hn.sameBut hs (Ne.symm (cne x c hc)),fun j y v' e1 e2 e3=>?_⟩,fun y c' e=>?_,I.free,I.freeC,fun p hp=>?_,tracked ⟨oc,hoc,I.freeC x c hc⟩ hs,by simpa using I.len⟩ ⟨c,hs, .inr hc⟩
    · exact (hs.2 b (Nat.ne_of_lt (Nat.lt_of_lt_of_le (Heap.lt_size e) (I.ok.cab x c hfn hc)))).trans (I.base.keep b o e n hb hx)
    · obtain ⟨sl,e1⟩:=I.base.slot b o e n hb hx
      exact ⟨sl,(hs.2 b (Nat.ne_of_lt (Nat.lt_of_lt_of_le (Heap.lt_size e) (I.ok.cab x c hfn hc)))).trans e1⟩
    · obtain ⟨o',e1⟩:=I.base.there b o e hx
      exact ⟨o',(hs.2 b (Nat.ne_of_lt (Nat.lt_of_lt_of_le (Heap.lt_size e) (I.ok.cab x c hfn hc)))).trans e1⟩
    · by_cases hj:j=i
      · subst hj
        rw [hi] at e1;cases e1
        rw [List.getElem?_set_self hiσ] at e2
        cases e2
        exact ⟨u,r, .inr ⟨.inl hk,c,hc,hc'⟩⟩
      · rw [List.getElem?_set_ne (Ne.symm hj)] at e2
        obtain ⟨u',r',q⟩:=hl j y v' e1 e2 e3
        refine ⟨u',r',?_⟩
        rcases q with q | ⟨k,c',e,z'⟩
        · exact .inl q
        · refine .inr ⟨k,c',e,z'.sameBut hs ?_⟩
          rintro rfl
          exact hj (mS hN e1 (I.ok.inj _ _ _ e hc▸hi))
    · by_cases hcc:c'=c
      · subst hcc;exact ⟨_,hc'⟩
      · obtain ⟨w2,z2⟩:=I.cell y c' e
        exact ⟨w2,z2.sameBut hs hcc⟩
    · obtain ⟨e,n,ne,nf,d⟩:=I.pin p hp
      refine ⟨(hs.2 p.1 ?_).trans e,n,ne,nf,d⟩
      intro q
      rw [q,hoc] at e
      have q':oc=p.2:=Option.some.inj e
      exact d w' (by rw [←q'];exact hocd)
theorem mT {M:Model} {A:Around} {E:Value→Shared→Prop} {i:Nat} {x:Str} {v:V} {u:Value} {Q:Unit→Shared→Prop} (I:Inv X pins σ H s) (hN:X.N.Nodup) (hi:X.N[i]? =some x) (hx:xu X.env.scope x) (r:RelV v u)
    (h:∀s',Inv X pins (σ.set i (some v)) H s'→Q () s') (hf:X.fn x=true∨X.env.scope.names.lookup x=some .local:=by first | exact .inl rfl | exact .inr rfl | assumption):wpAny M A (storeName X.env x u) Q E s:=
  rj I hN hi hx r (fun s' I' _=>h s' I') hf
theorem Inv.call' {s':Shared} {ch:List Addr} (I:Inv X pins σ H s) (ho:s'.os=s.os) (u:Un (sN X.stack) ch H H' s.heap s'.heap) (hok:HOk X.prog X.w H' s'.heap) (hg:AllBare s'.gens)
    (hch:∀b∈ch,(b∈X.ex∨X.s₀.heap.objs.size≤b)∧b≠X.env.locals∧(∀x c,X.env.cells.lookup x=some c→c≠b)∧∀p∈X.pn++pins,p.1≠b):Inv X pins σ H' s':=by
  obtain ⟨h',g',d',t',o'⟩:=s'
  have e:o'=s.os:=ho
  subst e
  exact I.call (g':=g') (t':=t') (d':=d') u hok hg hch
end
abbrev XK:=Value→Option Addr→Hp→Prop
abbrev St:=List (Option V)
abbrev VK:=V→Hp→Prop
abbrev TE:=St→Hp→VK→Prop
abbrev TT:=St→Hp→(Bool→Hp→Prop)→Prop
abbrev TA:=St→Hp→(List V→Hp→Prop)→Prop
structure Ends where
  nx:St→Hp→Prop
  rt:VK
  bk:St→Hp→Prop:=fun _ _=>False
  ct:St→Hp→Prop:=fun _ _=>False
abbrev TS:=Ends→St→Hp→Prop
def EP (X:Cx) (pins:List (Addr×Obj)) (σ:St) (Q:VK) (u:Value) (s':Shared):Prop:=∃v H',Inv X pins σ H' s'∧RelV v u∧Q v H'
def TP (X:Cx) (pins:List (Addr×Obj)) (σ:St) (Q:Bool→Hp→Prop) (b:Bool) (s':Shared):Prop:=∃H',Inv X pins σ H' s'∧Q b H'
def AP (X:Cx) (pins:List (Addr×Obj)) (σ:St) (Q:List V→Hp→Prop) (us:List Value) (s':Shared):Prop:=∃vs H',Inv X pins σ H' s'∧Vals vs us∧Q vs H'
def SP (X:Cx) (pins:List (Addr×Obj)) (D:Ends) (f:Flow) (s':Shared):Prop:=
  match f with
  | .next=>∃σ' H',Inv X pins σ' H' s'∧D.nx σ' H'
  | .brk=>∃σ' H',Inv X pins σ' H' s'∧D.bk σ' H'
  | .cont=>∃σ' H',Inv X pins σ' H' s'∧D.ct σ' H'
  | .ret u=>∃v σ' H',Inv X pins σ' H' s'∧RelV v u∧D.rt v H'
def PE (X:Cx) (e:Expr) (t:TE):Prop:=
  ∀(pins:List (Addr×Obj)) (s:Shared) (σ:St) (H:Hp) (Q:VK),Inv X pins σ H s→t σ H Q→wpAny (model X.prog X.w) X.A (eval e X.env) (EP X pins σ Q) X.xe s
def PT (X:Cx) (e:Expr) (t:TT):Prop:=
  ∀(pins:List (Addr×Obj)) (s:Shared) (σ:St) (H:Hp) (Q:Bool→Hp→Prop),Inv X pins σ H s→t σ H Q→wpAny (model X.prog X.w) X.A (isTrue e X.env (eval e X.env)) (TP X pins σ Q) X.xe s
def PW (X:Cx) (e:Expr) (t:TT):Prop:=
  ∀(whole:Sem Value) (pins:List (Addr×Obj)) (s:Shared) (σ:St) (H:Hp) (Q:Bool→Hp→Prop),Inv X pins σ H s→t σ H Q→wpAny (model X.prog X.w) X.A (isTrue e X.env whole) (TP X pins σ Q) X.xe s
theorem PW.pt {X:Cx} {e:Expr} {t:TT} (h:PW X e t):PT X e t:=h _
def PA (X:Cx) (es:List Expr) (t:TA):Prop:=
  ∀(pos:Pos) (pins:List (Addr×Obj)) (s:Shared) (σ:St) (H:Hp) (Q:List V→Hp→Prop),Inv X pins σ H s→t σ H Q→wpAny (model X.prog X.w) X.A (spliced (backTo pos (starEach es X.env))) (AP X pins σ Q) X.xe s
def PS (X:Cx) (st:Stmt) (t:TS):Prop:=
  ∀(pins:List (Addr×Obj)) (s:Shared) (σ:St) (H:Hp) (D:Ends),Inv X pins σ H s→t D σ H→wpAny (model X.prog X.w) X.A (exec st X.env) (SP X pins D) X.xe s
def PSs (X:Cx) (st:List Stmt) (t:TS):Prop:=
  ∀(pins:List (Addr×Obj)) (s:Shared) (σ:St) (H:Hp) (D:Ends),Inv X pins σ H s→t D σ H→wpAny (model X.prog X.w) X.A (execs st X.env) (SP X pins D) X.xe s
theorem bQ {α:Type} {t:Sem α} {Q Q':α→Shared→Prop} {M:Model} {A:Around} {E:Value→Shared→Prop} {s:Shared} (h:wpAny M A t Q E s) (hQ:∀a s,Q a s→Q' a s):wpAny M A t Q' E s:=wpAny_mono h hQ fun _ _ x=>x
end L2
namespace L2
open PySem PySem.Spec PyProof.Rows
section
variable {X:Cx}
def cg (i:Nat):TE:=fun σ H Q=>∃v,σ[i]? =some (some v)∧Q v H
def tC (v:V):TE:=fun _ H Q=>Q v H
theorem jw {i:Nat} {x:Str} {pos:Pos} (hN:X.N[i]? =some x) (hv:xt X.env.scope x) (hd:(x == ("__debug__":Str))=false:=by decide) (hcd:(x == ("__classdict__":Str))=false:=by decide):PE X (.Name x pos) (cg i):=by
  intro pins s σ H Q I h
  obtain ⟨v,e,h⟩:=h
  obtain ⟨m,hn,hl⟩:=I.loc
  obtain ⟨u,r,l⟩:=hl i x v hN e hv
  have fin:EP X pins σ Q u s:=⟨v,H,I,r,h⟩
  rcases l with ⟨hk,hm⟩ | ⟨hk,c,hc,hcell⟩
  · exact wpAny_Name (wpAny_loadName_local I.ok.kind hk hn hm fin) hd
  · rcases hk with hk | hk
    · exact wpAny_Name (wpAny_loadName_cell I.ok.kind hk hc hcell fin) hd
    · exact wpAny_Name (wpAny_loadName_free I.ok.kind hk hc hcell fin hcd) hd
theorem eu {i j pos}:PE X (.Constant (.int i) j pos) (tC (.int i)):=fun _ _ _ H _ I h=>wpAny_Constant_int ⟨.int i,H,I.tok _,⟨_,rfl⟩,h⟩
theorem za {b j pos}:PE X (.Constant (.bool b) j pos) (tC (.bl b)):=fun _ _ _ H _ I h=>Constant_bool ⟨.bl b,H,I,rfl,h⟩
theorem sS {x j pos}:PE X (.Constant (.str x) j pos) (tC (.str x)):=fun _ _ _ H _ I h=>Calls.Constant_str ⟨.str x,H,I.tok _,⟨_,rfl⟩,h⟩
def Gl (X:Cx) (x:Str):Prop:=X.env.kindOf x=some .globalImplicit
theorem vn {E:Value→Shared→Prop} {pins:List (Addr×Obj)} {s:Shared} {σ:St} {H:Hp} {x:Str} {u:Value} {pos:Pos} {Q:Value→Shared→Prop} (I:Inv X pins σ H s) (hg:Gl X x) (hm:X.mg x=some u) (h:Q u s)
    (hd:(x == ("__debug__":Str))=false:=by decide):wpAny (model X.prog X.w) X.A (eval (.Name x pos) X.env) Q E s:=
  Calls.Name_function_global I.ok.kind hg (Calls.loadGlobal_global (by rw [I.ok.glob];exact I.mod.glob.keeps I.bk) hm h) hd
theorem gW {E:Value→Shared→Prop} {pins:List (Addr×Obj)} {s:Shared} {σ:St} {H:Hp} {x:Str} {u:Value} {pos:Pos} {Q:Value→Shared→Prop} (I:Inv X pins σ H s) (hg:Gl X x) (hm:X.mg x=none) (hv:bootBuiltins x=some u) (h:Q u s)
    (hn:x≠"__name__":=by decide) (hd:(x == ("__debug__":Str))=false:=by decide):wpAny (model X.prog X.w) X.A (eval (.Name x pos) X.env) Q E s:=by
  obtain ⟨mb,h1,h2⟩:=I.mod.blt
  exact Calls.Name_function_global I.ok.kind hg (Calls.loadGlobal_builtin (by rw [I.ok.glob];exact I.mod.glob.keeps I.bk) hm (by rw [I.ok.blt];exact h1.keeps I.bk) ((h2 x hn).trans hv) h) hd
theorem vo {x:Str} {v:V} {u:Value} {pos:Pos} (hg:Gl X x) (hm:X.mg x=none) (hv:bootBuiltins x=some u) (r:RelV v u) (hn:x≠"__name__":=by decide) (hd:(x == ("__debug__":Str))=false:=by decide):PE X (.Name x pos) (tC v):=
  fun _ _ _ H _ I h=>gW I hg hm hv ⟨v,H,I,r,h⟩ hn hd
variable {a b:Expr} {ta tb:TE} {pos:Pos}
variable {tA tB':TT} {bO:List Expr}
def Aw (t u:TT):TT:=fun σ H Q=>t σ H fun c H1=>if c=true then u σ H1 Q else Q false H1
def Br (t u:TT):TT:=fun σ H Q=>t σ H fun c H1=>if c=true then Q true H1 else u σ H1 Q
def Ax (t:TT):TT:=fun σ H Q=>t σ H fun c H1=>Q (!c) H1
theorem vp (ha:PT X a tA):PW X (.BoolOp .And [a] pos) tA:=by
  intro wh pins s σ H Q I h
  refine isTrue_and (bQ (ha pins s σ H Q I h) fun c s1 e=>?_)
  cases c with
  | true=>exact isTrue_and_nil e
  | false=>exact e
theorem xv (ha:PT X a tA):PW X (.BoolOp .Or [a] pos) tA:=by
  intro wh pins s σ H Q I h
  refine isTrue_or (bQ (ha pins s σ H Q I h) fun c s1 e=>?_)
  cases c with
  | false=>exact isTrue_or_nil e
  | true=>exact e
theorem xw (ha:PT X a tA) (hb:PW X (.BoolOp .And (b::bO) pos) tB'):PW X (.BoolOp .And (a::b::bO) pos) (Aw tA tB'):=by
  intro wh pins s σ H Q I h
  refine isTrue_and (bQ (ha pins s σ H _ I h) fun c s1 ⟨H1,I1,q1⟩=>?_)
  cases c with
  | true=>exact hb wh pins s1 σ H1 Q I1 q1
  | false=>exact ⟨H1,I1,q1⟩
theorem zb (ha:PT X a tA) (hb:PW X (.BoolOp .Or (b::bO) pos) tB'):PW X (.BoolOp .Or (a::b::bO) pos) (Br tA tB'):=by
  intro wh pins s σ H Q I h
  refine isTrue_or (bQ (ha pins s σ H _ I h) fun c s1 ⟨H1,I1,q1⟩=>?_)
  cases c with
  | true=>exact ⟨H1,I1,q1⟩
  | false=>exact hb wh pins s1 σ H1 Q I1 q1
theorem xx (ha:PT X a tA):PT X (.UnaryOp .Not a pos) (Ax tA):=by
  intro pins s σ H Q I h
  exact isTrue_not (ha pins s σ H (fun c H1=>Q (!c) H1) I h)
end
end L2
namespace L2
open PySem PySem.Spec PyProof.Rows
def SqL (K:PySem.W.Frag) (H:Hp) (a:Addr) (xs:List V):Prop:=
  Rd H a (.lst xs)∨
    ∃(o:Obj) (its:Array Value) (n:Nat),K.lookup a=some o∧o.cls= .type "list"∧o.dict=none∧o.data= .seq its n∧its.size≤sizeLine∧Vals xs its.toList
def SqT (K:PySem.W.Frag) (H:Hp) (a:Addr) (xs:List V):Prop:=
  Rd H a (.tup xs)∨
    ∃(o:Obj) (its:Array Value) (n:Nat),K.lookup a=some o∧o.cls= .type "tuple"∧o.data= .seq its n∧its.size≤sizeLine∧Vals xs its.toList
def Ay:Value→Option V
  | .none=>some .non
  | .bool b=>some (.bl b)
  | .int i _=>some (.int i)
  | .str x _=>some (.str x)
  | .bytes b _=>some (.byt b)
  | .float b _=>some (.flt b)
  | .ref a=>some (.ref a)
  | .type n=>some (.ty n)
  | _=>none
theorem RelV.abs {x:V} {u:Value} (r:RelV x u):Ay u=some x:=by
  cases x with
  | non=>cases r;rfl
  | bl _=>cases r;rfl
  | int _=>obtain ⟨t,rfl⟩:=r;rfl
  | str _=>obtain ⟨t,rfl⟩:=r;rfl
  | byt _=>obtain ⟨t,rfl⟩:=r;rfl
  | flt _=>obtain ⟨t,rfl⟩:=r;rfl
  | ref _=>cases r;rfl
  | ty _=>cases r;rfl
theorem RelV.inj {x y:V} {u:Value} (r:RelV x u) (q:RelV y u):x=y:=Option.some.inj (r.abs.symm.trans q.abs)
theorem Vals.inj {xs ys:List V} {us:List Value} (h:Vals xs us) (k:Vals ys us):xs=ys:=by
  induction h generalizing ys with
  | nil=>cases k;rfl
  | cons r _ ih=>cases k with | cons r' t'=>rw [r.inj r',ih t']
section
variable {X:Cx} {pins:List (Addr×Obj)} {σ:St} {H:Hp} {s:Shared} {a:Addr} {xs ys:List V}
theorem SqL.of {K:PySem.W.Frag} (h:H a=some (.lst xs)):SqL K H a xs:= .inl (.inl h)
theorem SqT.of {K:PySem.W.Frag} (h:H a=some (.tup xs)):SqT K H a xs:= .inl (.inl h)
theorem Inv.list (I:Inv X pins σ H s) (h:SqL X.K H a xs):∃its:List Value,Vals xs its∧PlainL s.heap a its.toArray∧xs.length≤sizeLine:=by
  rcases h with h | ⟨o,its,n,hk,hc,hd,hs,hz,r⟩
  · obtain ⟨z,its,n,r,e⟩:=h.ok I.hok
    exact ⟨its,r,⟨_,n,e,rfl,rfl,rfl⟩,z⟩
  · refine ⟨its.toList,r,⟨o,n,I.kIn a o hk,hc,hd,by simpa using hs⟩,?_⟩
    have e:=r.length
    simp only [Array.length_toList] at e
    omega
theorem Inv.tuple (I:Inv X pins σ H s) (h:SqT X.K H a xs):∃its:List Value,Vals xs its∧IsTup s.heap a its.toArray∧xs.length≤sizeLine:=by
  rcases h with h | ⟨o,its,n,hk,hc,hs,hz,r⟩
  · obtain ⟨z,its,r,p⟩:=h.ok I.hok
    exact ⟨its,r,p,z⟩
  · refine ⟨its.toList,r,⟨o,I.kIn a o hk,hc,n,by simpa using hs⟩,?_⟩
    have e:=r.length
    simp only [Array.length_toList] at e
    omega
theorem Inv.list_inj (I:Inv X pins σ H s) (h:SqL X.K H a xs) (h':SqL X.K H a ys):xs=ys:=by
  obtain ⟨its,r,⟨o,n,e,_,_,d⟩,_⟩:=I.list h
  obtain ⟨its',r',⟨o',n',e',_,_,d'⟩,_⟩:=I.list h'
  rw [e] at e';cases e'
  rw [d] at d'
  injection d' with d1 _
  have:its=its':=by simpa using congrArg Array.toList d1
  subst this
  exact r.inj r'
theorem Inv.tuple_inj (I:Inv X pins σ H s) (h:SqT X.K H a xs) (h':SqT X.K H a ys):xs=ys:=by
  obtain ⟨its,r,⟨o,e,_,n,d⟩,_⟩:=I.tuple h
  obtain ⟨its',r',⟨o',e',_,n',d'⟩,_⟩:=I.tuple h'
  rw [e] at e';cases e'
  rw [d] at d'
  injection d' with d1 _
  have:its=its':=by simpa using congrArg Array.toList d1
  subst this
  exact r.inj r'
end
abbrev Cx.wish (X:Cx) (E:Value→Shared→Prop):Cx:={X with xe:=E}
abbrev Cx.nox (X:Cx):Cx:=X.wish fun _ _=>False
theorem Cx.Ok.wish {X:Cx} (ok:X.Ok) (E:Value→Shared→Prop):(X.wish E).Ok:=
  ⟨ok.mod,ok.kind,ok.glob,ok.blt,ok.above,ok.inj,ok.has,ok.cab,ok.hd,ok.frames,ok.stk,ok.exf,ok.bs,ok.bsz,ok.noex,ok.exfs,ok.funs,ok.frf,ok.tab⟩
theorem Cx.Ok.unwish {X:Cx} {E:Value→Shared→Prop} (ok:(X.wish E).Ok):X.Ok:=
  ⟨ok.mod,ok.kind,ok.glob,ok.blt,ok.above,ok.inj,ok.has,ok.cab,ok.hd,ok.frames,ok.stk,ok.exf,ok.bs,ok.bsz,ok.noex,ok.exfs,ok.funs,ok.frf,ok.tab⟩
section
variable {X:Cx} {pins:List (Addr×Obj)} {σ:St} {H:Hp} {s:Shared} {E:Value→Shared→Prop}
theorem Inv.wish (I:Inv X pins σ H s) (E:Value→Shared→Prop):Inv (X.wish E) pins σ H s:=⟨I.ok.wish E,I.os,I.bare,I.base,I.loc,I.cell,I.free,I.freeC,I.pin,I.hok,I.len⟩
theorem Inv.unwish (I:Inv (X.wish E) pins σ H s):Inv X pins σ H s:=⟨I.ok.unwish,I.os,I.bare,I.base,I.loc,I.cell,I.free,I.freeC,I.pin,I.hok,I.len⟩
theorem SP.unwish {D:Ends} {f:Flow} {s':Shared} (h:SP (X.wish E) pins D f s'):SP X pins D f s':=by
  cases f with
  | next=>obtain ⟨σ',H',I,q⟩:=h;exact ⟨σ',H',I.unwish,q⟩
  | brk=>obtain ⟨σ',H',I,q⟩:=h;exact ⟨σ',H',I.unwish,q⟩
  | cont=>obtain ⟨σ',H',I,q⟩:=h;exact ⟨σ',H',I.unwish,q⟩
  | ret u=>obtain ⟨v,σ',H',I,r,q⟩:=h;exact ⟨v,σ',H',I.unwish,r,q⟩
theorem PE.nox {e:Expr} {t:TE} (h:PE X.nox e t):PE X e t:=fun pins s σ H Q I hw=>
  wpAny_mono (h pins s σ H Q (I.wish _) hw) (fun _ _ ⟨v,H',I',r,q⟩=>⟨v,H',I'.unwish,r,q⟩) fun _ _ z=>False.elim z
theorem PT.nox {e:Expr} {t:TT} (h:PT X.nox e t):PT X e t:=fun pins s σ H Q I hw=>
  wpAny_mono (h pins s σ H Q (I.wish _) hw) (fun _ _ ⟨H',I',q⟩=>⟨H',I'.unwish,q⟩) fun _ _ z=>False.elim z
theorem PSs.nox {st:List Stmt} {t:TS} (h:PSs X.nox st t):PSs X st t:=fun pins s σ H D I hw=>
  wpAny_mono (h pins s σ H D (I.wish _) hw) (fun _ _ q=>q.unwish) fun _ _ z=>False.elim z
end
section
variable {X:Cx} {st:Stmt} {bO:List Stmt} {t u:TS} {e:Expr} {te:TE} {pos:Pos}
def wK:TS:=fun D σ H=>D.nx σ H
def rn (t u:TS):TS:=fun D σ H=>t {D with nx:=u D} σ H
theorem pV:PSs X [] wK:=fun _ _ σ H _ I h=>wpAny_execs_nil ⟨σ,H,I,h⟩
theorem fu (h1:PS X st t) (h2:PSs X bO u):PSs X (st::bO) (rn t u):=by
  intro pins s σ H D I h
  refine wpAny_execs_cons (bQ (h1 pins s σ H {D with nx:=u D} I h) fun f s1 q=>?_)
  cases f with
  | next=>
    obtain ⟨σ',H',I',q⟩:=q
    exact h2 pins s1 σ' H' D I' q
  | ret v=>exact q
  | brk=>exact q
  | cont=>exact q
theorem du (h1:PS X st t):PSs X [st] t:=by
  intro pins s σ H D I h
  refine wpAny_execs_cons (bQ (h1 pins s σ H D I h) fun f s1 q=>?_)
  cases f with
  | next=>exact wpAny_execs_nil q
  | ret v=>exact q
  | brk=>exact q
  | cont=>exact q
theorem Inv.quiet {pins:List (Addr×Obj)} {σ:St} {H:Hp} {s:Shared} (I:Inv X pins σ H s):interactive X.env=false:=by simp [interactive,I.ok.kind]
def pW (te:TE):TS:=fun D σ H=>te σ H fun _ H1=>D.nx σ H1
theorem jj (he:PE X e te) (hs:swapsWith e none pos.line X.env=pure false:=by rfl):PS X (.Expr e pos) (pW te):=by
  intro pins s σ H D I h
  exact wpAny_Expr_any (bQ (he pins s σ H _ I h) fun v s1 ⟨x,H1,I1,r1,q1⟩=>⟨σ,H1,I1,q1⟩) I.quiet hs
def zc (te:TE):TS:=fun D σ H=>te σ H D.rt
theorem sT (he:PE X e te):PS X (.Return (some e) pos) (zc te):=by
  intro pins s σ H D I h
  exact wpAny_Return_some (bQ (he pins s σ H _ I h) fun v s1 ⟨x,H1,I1,r1,q1⟩=>⟨x,σ,H1,I1,r1,q1⟩)
def xy (c:TT) (t u:TS):TS:=fun D σ H=>c σ H fun b H1=>if b=true then t D σ H1 else u D σ H1
theorem sU {c:Expr} {a b:List Stmt} {tc:TT} (hc:PT X c tc) (ha:PSs X a t) (hb:PSs X b u):PS X (.If c a b pos) (xy tc t u):=by
  intro pins s σ H D I h
  refine wpAny_If (bQ (hc pins s σ H _ I h) fun d s1 ⟨H1,I1,q1⟩=>?_)
  cases d with
  | true=>exact ha pins s1 σ H1 D I1 q1
  | false=>exact hb pins s1 σ H1 D I1 q1
end
abbrev TG:=V→St→Hp→(St→Hp→Prop)→Prop
abbrev vq:=List V→St→Hp→(St→Hp→Prop)→Prop
def PG (X:Cx) (target:Expr) (t:TG):Prop:=
  ∀(pins:List (Addr×Obj)) (s:Shared) (σ:St) (H:Hp) (v:V) (u:Value) (Q:St→Hp→Prop),Inv X pins σ H s→RelV v u→t v σ H Q→
    wpAny (model X.prog X.w) X.A (assign target X.env u) (fun _ s'=>∃σ' H',Inv X pins σ' H' s'∧Q σ' H') X.xe s
def xz (X:Cx) (ts:List Expr) (t:vq):Prop:=
  ∀(pins:List (Addr×Obj)) (s:Shared) (σ:St) (H:Hp) (vs:List V) (us:List Value) (Q:St→Hp→Prop),Inv X pins σ H s→Vals vs us→t vs σ H Q→
    wpAny (model X.prog X.w) X.A (assignInOrder ((assignEach ts X.env).map (·.2)) us) (fun _ s'=>∃σ' H',Inv X pins σ' H' s'∧Q σ' H') X.xe s
abbrev xA:=V→V→V→Hp→(Hp→Prop)→Prop
def zd (X:Cx) (t:xA):Prop:=
  ∀(pins:List (Addr×Obj)) (s:Shared) (σ:St) (H:Hp) (o i v:V) (ov iv u:Value) (Q:Hp→Prop),Inv X pins σ H s→RelV o ov→RelV i iv→RelV v u→t o i v H Q→
    wpAny (model X.prog X.w) X.A (setItem ov iv u) (fun _ s'=>∃H',Inv X pins σ H' s'∧Q H') X.xe s
section
variable {X:Cx} {pos:Pos}
def dL (i:Nat):TG:=fun v σ H Q=>Q (σ.set i (some v)) H
theorem eJ {i:Nat} {x:Str} (hN:X.N.Nodup) (hi:X.N[i]? =some x) (hx:xu X.env.scope x) (hf:X.fn x=true∨X.env.scope.names.lookup x=some .local:=by first | exact .inl rfl | exact .inr rfl | assumption):PG X (.Name x pos) (dL i):=by
  intro pins s σ H v u Q I r h
  exact wpAny_assign_Name (mT I hN hi hx r (fun s' I'=>⟨_,H,I',h⟩) hf)
def xB:vq:=fun vs σ H Q=>vs=[]∧Q σ H
def mU (t:TG) (u:vq):vq:=fun vs σ H Q=>∃v r,vs=v::r∧t v σ H fun σ' H'=>u r σ' H' Q
theorem lj:xz X [] xB:=by
  intro pins s σ H vs us Q I r h
  obtain ⟨e,h⟩:=h
  subst e
  cases r
  exact assignInOrder_nil ⟨σ,H,I,h⟩
theorem f9 {e:Expr} {es:List Expr} {t:TG} {u:vq} (h1:PG X e t) (h2:xz X es u)
    (hs:(assignEach (e::es) X.env).map (·.2)=assign e X.env::(assignEach es X.env).map (·.2):=by rfl):xz X (e::es) (mU t u):=by
  intro pins s σ H vs us Q I r h
  obtain ⟨v,vr,e1,h⟩:=h
  subst e1
  cases r with
  | cons r rr=>
    rw [hs]
    refine assignInOrder_cons (bQ (h1 pins s σ H _ _ _ I r h) fun _ s1 ⟨σ1,H1,I1,q1⟩=>?_)
    exact h2 pins s1 σ1 H1 _ _ Q I1 rr q1
def xC (K:PySem.W.Frag) (n:Nat) (t:vq):TG:=fun v σ H Q=>∃a xs,v= .ref a∧SqT K H a xs∧xs.length=n∧t xs σ H Q
theorem oE {es:List Expr} {k:Nat} {t:vq} {n:Nat} (hc:X.calm=true) (h:xz X es t)
    (hn:(assignEach es X.env).length=n:=by rfl) (hst:(assignEach es X.env).findIdx? (·.1)=none:=by rfl):PG X (.Tuple es k pos) (xC X.K n t):=by
  intro pins s σ H v u Q I r hw
  obtain ⟨a,xs,e1,hq,hl,hw⟩:=hw
  subst e1
  cases r
  obtain ⟨its,rv,ht,hz⟩:=I.tuple hq
  refine assign_Tuple_tuple (I.ok.hd hc) ht (by simp [hn,←hl,rv.length]) hst fun h' hx=>?_
  have I1:Inv X pins σ H {s with heap:=h'}:=I.kept (t':=s.toks) fun b o e=>hx b o (Nat.ne_of_lt (Heap.lt_size e)) e
  exact h pins _ σ H xs _ Q I1 (by simpa using rv) hw
def Az (to ti:TE) (t:xA):TG:=fun v σ H Q=>to σ H fun o H1=>ti σ H1 fun i H2=>t o i v H2 fun H3=>Q σ H3
theorem xD {o i:Expr} {to ti:TE} {t:xA} (ho:PE X o to) (hi:PE X i ti) (hs:zd X t)
    (ha:∀v,assign (.Subscript o i pos) X.env v=(do
      let ov ←holding [v] (eval o X.env)
      let iv ←holding [v,ov] (eval i X.env)
      standAt pos
      holding [v,ov,iv] (setItem ov iv v)
      release [v,ov,iv] []):=by intro _;rfl):PG X (.Subscript o i pos) (Az to ti t):=by
  intro pins s σ H v u Q I r h
  rw [ha]
  refine wpAny_bind (wpAny_holding (bQ (ho pins s σ H _ I h) fun ov s1 ⟨x,H1,I1,r1,q1⟩=>?_))
  refine wpAny_bind (wpAny_holding (bQ (hi pins s1 σ H1 _ I1 q1) fun iv s2 ⟨y,H2,I2,r2,q2⟩=>?_))
  refine wpAny_bind (wpAny_standAt (wpAny_bind (wpAny_holding (bQ (hs pins s2 σ H2 x y v ov iv u _ I2 r1 r2 r q2) fun _ s3 ⟨H3,I3,q3⟩=>?_))))
  exact wpAny_release ⟨σ,H3,I3,q3⟩
def oF (te:TE) (g:TG):TS:=fun D σ H=>te σ H fun x H1=>g x σ H1 D.nx
theorem xE {tg e:Expr} {te:TE} {g:TG} (he:PE X e te) (hg:PG X tg g) (hs:swapsWithSole [tg] e pos.line X.env=pure false:=by rfl) (hw:swappedStores [tg] e X.env=pure none:=by rfl)
    (h1:(assignEach [tg] X.env).map (·.2)=[assign tg X.env]:=by rfl):PS X (.Assign [tg] e pos) (oF te g):=by
  intro pins s σ H D I h
  refine wpAny_Assign_stores (bQ (he pins s σ H _ I h) fun v s1 ⟨x,H1,I1,r1,q1⟩=>?_) hs hw
  rw [h1]
  exact bQ (hg pins s1 σ H1 x v _ I1 r1 q1) fun _ s2 q=>q
theorem jx {i:Nat} {x:Str} {e:Expr} {te:TE} {pos':Pos} (hN:X.N.Nodup) (hi:X.N[i]? =some x) (hx:xu X.env.scope x) (he:PE X e te) (hs:swapsWith e (some (.Name x pos')) pos.line X.env=pure false:=by rfl) (hf:X.fn x=true∨X.env.scope.names.lookup x=some .local:=by first | exact .inl rfl | exact .inr rfl | assumption):
    PS X (.Assign [.Name x pos'] e pos) (oF te (dL i)):=by
  intro pins s σ H D I h
  refine wpAny_Assign_Name (bQ (he pins s σ H _ I h) fun v s1 ⟨y,H1,I1,r1,q1⟩=>?_) hs
  exact mT I1 hN hi hx r1 (fun s2 I2=>⟨_,H1,I2,q1⟩) hf
end
section
variable {X:Cx} {pos:Pos}
def xF (c:TT) (tb:TS):TS:=fun D σ H=>∃W:Nat→St→Hp→Prop,(∃m,W m σ H)∧∀m σ H,W m σ H→
  c σ H fun b H1=>if b=true then ∃N:St→Hp→Prop,(∀σ' H',N σ' H'→∃m',m' < m∧W m' σ' H')∧tb {D with nx:=N,ct:=N,bk:=D.nx} σ H1 else D.nx σ H1
theorem sV {c:Expr} {body:List Stmt} {tc:TT} {tb:TS} (hp:PassesOwn (model X.prog X.w) X.A X.env X.xe) (hc:PT X c tc) (hb:PSs X body tb):PS X (.While c body [] pos) (xF tc tb):=by
  intro pins s σ H D I h
  obtain ⟨W,⟨m0,w0⟩,turn⟩:=h
  refine wpAny_While (codeAny_whileLoop (fun n s'=>∃σ' H',Inv X pins σ' H' s'∧W n σ' H') ?_ m0 ⟨σ,H,I,w0⟩)
  rintro n s1 ⟨σ1,H1,I1,w1⟩
  refine wpAny_passesOwn hp (bQ (hc pins s1 σ1 H1 _ I1 (turn n σ1 H1 w1)) fun b s2 ⟨H2,I2,q2⟩=>?_)
  cases b with
  | true=>
    obtain ⟨N,hN,q2⟩:=q2
    rw [if_pos rfl]
    refine wpAny_passesOwn hp (bQ (hb pins s2 σ1 H2 _ I2 q2) fun f s3 q3=>?_)
    cases f with
    | next=>
      obtain ⟨σ3,H3,I3,n3⟩:=q3
      obtain ⟨m',hm,w3⟩:=hN σ3 H3 n3
      exact ⟨m',hm,σ3,H3,I3,w3⟩
    | cont=>
      obtain ⟨σ3,H3,I3,n3⟩:=q3
      obtain ⟨m',hm,w3⟩:=hN σ3 H3 n3
      exact ⟨m',hm,σ3,H3,I3,w3⟩
    | brk=>exact q3
    | ret v=>exact q3
  | false=>
    rw [if_neg Bool.false_ne_true]
    exact wpAny_execs_nil ⟨σ1,H2,I2,q2⟩
end
structure It where
  go:Nat→Hp→Prop
  yld:Nat→Hp→V→Hp→Prop
  stop:Nat→Hp→Prop
def kb (X:Cx) (pins:List (Addr×Obj)) (H:Hp) (b:Addr):Prop:=
  H b=none∧b≠X.env.locals∧b∉X.fs∧(b∈X.ex∨X.s₀.heap.objs.size≤b)∧(∀x c,X.env.cells.lookup x=some c→c≠b)∧∀p∈X.pn++pins,p.1≠b
theorem Inv.fpOk {X:Cx} {pins:List (Addr×Obj)} {σ:St} {H H':Hp} {s:Shared} {b:Addr} (I:Inv X pins σ H s) (hb:s.heap.objs.size≤b) (hn:H' b=none):kb X pins H' b:=by
  refine ⟨hn,Nat.ne_of_gt (Nat.lt_of_lt_of_le I.lt hb),I.nofs hb, .inr (Nat.le_trans I.sz hb),fun x c e z=>?_,fun p hp z=>?_⟩
  · obtain ⟨v,q⟩:=I.cell x c e
    exact absurd (Nat.lt_of_lt_of_le q.lt (by rw [z];exact hb)) (Nat.lt_irrefl _)
  · exact absurd (Nat.lt_of_lt_of_le (Heap.lt_size (I.pin p hp).1) (by rw [z];exact hb)) (Nat.lt_irrefl _)
structure Turn (P:Program) (w:World) (K:PySem.W.Frag) (tg:Expr) (J:It) (fp:List Addr) (it:Addr) (tn:Nat→Heap→Prop):Prop where
  mem:it∈fp
  obj:∀i h,tn i h→∀b∈fp,∃o,h.get? b=some o∧∀v,o.data≠ .cell v
  keep:∀i h h',tn i h→(∀b∈fp,∀o,h.get? b=some o→h'.get? b=some o)→tn i h'
  item:∀(X:Cx),X.prog=P→X.w=w→X.K=K→X.calm=true→∀(i:Nat) (pins:List (Addr×Obj)) (s:Shared) (σ:St) (H:Hp) (E:Value→Shared→Prop),Inv X pins σ H s→(∀b∈fp,kb X pins H b)→tn i s.heap→J.go i H→
    wpAny (model P w) X.A (pyNext (.ref it)) (fun r s1=>∃u,r=some u∧
      wpAny (model P w) X.A (letOwnedTupleGo tg (.ref it) u) (fun _ s2=>∃x H',Inv X pins σ H' s2∧RelV x u∧J.yld i H x H'∧tn (i+1) s2.heap∧∀b∈fp,H' b=none) E s1) E s
  done:∀(X:Cx),X.prog=P→X.w=w→X.K=K→X.calm=true→∀(i:Nat) (pins:List (Addr×Obj)) (s:Shared) (σ:St) (H:Hp) (E:Value→Shared→Prop),Inv X pins σ H s→(∀b∈fp,kb X pins H b)→tn i s.heap→J.stop i H→
    wpAny (model P w) X.A (pyNext (.ref it)) (fun r s1=>r=none∧Inv X pins σ H s1) E s
  self:∀(A:Around) (i:Nat) (s:Shared) (Q:Value→Shared→Prop) (E:Value→Shared→Prop),tn i s.heap→Q (.ref it) s→wpAny (model P w) A (pyIter (.ref it)) Q E s
abbrev TI:=St→Hp→(It→Hp→Prop)→Prop
def AA (X:Cx) (pins:List (Addr×Obj)) (σ:St) (tg:Expr) (R:It→Hp→Prop) (itv:Value) (s2:Shared):Prop:=
  ∃(it:Addr) (fp:List Addr) (tn:Nat→Heap→Prop) (J:It) (H':Hp),itv= .ref it∧Inv X pins σ H' s2∧Turn X.prog X.w X.K tg J fp it tn∧tn 0 s2.heap∧(∀b∈fp,kb X pins H' b)∧R J H'
def PI (X:Cx) (tg iter:Expr) (wi:TI):Prop:=
  ∀(pins:List (Addr×Obj)) (s:Shared) (σ:St) (H:Hp) (R:It→Hp→Prop),Inv X pins σ H s→wi σ H R→
    wpAny (model X.prog X.w) X.A (eval iter X.env) (fun v s1=>wpAny (model X.prog X.w) X.A (pyIter v) (AA X pins σ tg R) X.xe s1) X.xe s
theorem kl {M:Model} {A:Around} {E:Value→Shared→Prop} {s:Shared} {tg:Expr} {it:Addr} {u:Value} {o:Obj} {n:String} {vs:Array Value} {Q:Unit→Shared→Prop} (ho:s.heap.get? it=some o) (hc:o.cls= .type n) (hd:o.data= .fields vs)
    (hn:["enumerate","zip","dict_itemiterator","dict_reverseitemiterator","odict_iterator","itertools.zip_longest","itertools.pairwise"].contains n=false) (hQ:Q () s):wpAny M A (letOwnedTupleGo tg (.ref it) u) Q E s:=by
  unfold letOwnedTupleGo
  cases tg <;> first
    | exact wpAny_pure hQ
    | (cases u <;> first
        | exact wpAny_pure hQ
        | (refine wpAny_bind (wpAny_load ho ?_)
           rw [hc,hd]
           show wpAny M A (if (["enumerate","zip","dict_itemiterator","dict_reverseitemiterator","odict_iterator","itertools.zip_longest","itertools.pairwise"].contains n&&vs[0]? == some (rawInt _))=true then _ else _) Q E s
           rw [if_neg (by intro h;rw [hn,Bool.false_and] at h;cases h)]
           exact wpAny_pure hQ))
def yU (K:PySem.W.Frag) (a:Addr):It:=
  ⟨fun i H=>∃xs x,SqL K H a xs∧xs[i]? =some x,fun i H x H'=>H'=H∧∀xs,SqL K H a xs→xs[i]? =some x,fun i H=>∃xs,SqL K H a xs∧xs.length≤i⟩
def AB (K:PySem.W.Frag) (a:Addr):It:=
  ⟨fun i H=>∃xs x,SqT K H a xs∧xs[i]? =some x,fun i H x H'=>H'=H∧∀xs,SqT K H a xs→xs[i]? =some x,fun i H=>∃xs,SqT K H a xs∧xs.length≤i⟩
def sW (lo:Int) (n:Nat):It:=⟨fun i _=>i < n,fun i H x H'=>H'=H∧x= .int (lo+i),fun i _=>n≤i⟩
theorem rq {P:Program} {w:World} {K:PySem.W.Frag} {tg:Expr} (a it:Addr):Turn P w K tg (yU K a) [it] it (fun i h=>h.IsListIter it a i) where
  mem:=by simp
  obj:=fun i h st b hb=>by
    have e:b=it:=by simpa using hb
    subst e
    obtain ⟨o,e,c,d⟩:=st
    exact ⟨o,e,fun v z=>by rw [d] at z;cases z⟩
  keep:=fun i h h' st k=>st.at fun o e=>k it (by simp) o e
  item:=by
    intro X hP hw hK hc i pins s σ H E I hf st hg
    subst hP hw hK
    obtain ⟨xs,x,hq,hx⟩:=hg
    obtain ⟨its,rv,p,hz⟩:=I.list hq
    obtain ⟨u,hu,ru⟩:=rv.get hx
    obtain ⟨f0,f1,f2,f3,f4,f5⟩:=hf it (by simp)
    refine wpAny_pyNext_list_item st p.isList (x:=u) (by simpa using hu) fun h' st' sb=>?_
    have I1:Inv X pins σ H {s with heap:=h'}:=I.turned (t':=s.toks) (fun b o hb e=>(sb.2 b hb).trans e) f0 f1 f3 f4 f5
    obtain ⟨o,e,c,d⟩:=id st'
    exact ⟨u,rfl,kl (s:={s with heap:=h'}) e c d (by decide) ⟨x,H,I1,ru,⟨rfl,fun ys hy=>by rw [I.list_inj hy hq];exact hx⟩,st',fun b hb=>(hf b hb).1⟩⟩
  done:=by
    intro X hP hw hK hc i pins s σ H E I hf st hg
    subst hP hw hK
    obtain ⟨xs,hq,hx⟩:=hg
    obtain ⟨its,rv,p,hz⟩:=I.list hq
    obtain ⟨f0,f1,f2,f3,f4,f5⟩:=hf it (by simp)
    have hl:=rv.length
    exact wpAny_pyNext_list_end (I.ok.hd hc) st p.isList (by simp;omega) fun h' eb=>⟨rfl,I.turned (t':=s.toks) (fun b o hb e=>eb b o hb e) f0 f1 f3 f4 f5⟩
  self:=fun _ _ _ _ _ st h=>wpAny_pyIter_listiter st h
theorem oG {P:Program} {w:World} {K:PySem.W.Frag} {tg:Expr} (a it:Addr):Turn P w K tg (AB K a) [it] it (fun i h=>h.IsTupleIter it a i) where
  mem:=by simp
  obj:=fun i h st b hb=>by
    have e:b=it:=by simpa using hb
    subst e
    obtain ⟨o,e,c,d⟩:=st
    exact ⟨o,e,fun v z=>by rw [d] at z;cases z⟩
  keep:=fun i h h' st k=>st.at fun o e=>k it (by simp) o e
  item:=by
    intro X hP hw hK hc i pins s σ H E I hf st hg
    subst hP hw hK
    obtain ⟨xs,x,hq,hx⟩:=hg
    obtain ⟨its,rv,p,hz⟩:=I.tuple hq
    obtain ⟨u,hu,ru⟩:=rv.get hx
    obtain ⟨f0,f1,f2,f3,f4,f5⟩:=hf it (by simp)
    refine wpAny_pyNext_tuple_item st (show s.heap.IsTuple a its.toArray from p) (x:=u) (by simpa using hu) fun h' st' sb=>?_
    have I1:Inv X pins σ H {s with heap:=h'}:=I.turned (t':=s.toks) (fun b o hb e=>(sb.2 b hb).trans e) f0 f1 f3 f4 f5
    obtain ⟨o,e,c,d⟩:=id st'
    exact ⟨u,rfl,kl (s:={s with heap:=h'}) e c d (by decide) ⟨x,H,I1,ru,⟨rfl,fun ys hy=>by rw [I.tuple_inj hy hq];exact hx⟩,st',fun b hb=>(hf b hb).1⟩⟩
  done:=by
    intro X hP hw hK hc i pins s σ H E I hf st hg
    subst hP hw hK
    obtain ⟨xs,hq,hx⟩:=hg
    obtain ⟨its,rv,p,hz⟩:=I.tuple hq
    obtain ⟨f0,f1,f2,f3,f4,f5⟩:=hf it (by simp)
    have hl:=rv.length
    exact wpAny_pyNext_tuple_end (I.ok.hd hc) st (show s.heap.IsTuple a its.toArray from p) (by simp;omega) fun h' eb=>⟨rfl,I.turned (t':=s.toks) (fun b o hb e=>eb b o hb e) f0 f1 f3 f4 f5⟩
  self:=fun _ _ _ _ _ st h=>wpAny_pyIter_tupleiter st h
theorem oH {P:Program} {w:World} {K:PySem.W.Frag} {tg:Expr} (it:Addr) (lo:Int) (n:Nat):Turn P w K tg (sW lo n) [it] it (fun i h=>IsRangeIter h it (lo+(i:Nat)*1) ((n:Int) - (i:Nat)) 1) where
  mem:=by simp
  obj:=fun i h st b hb=>by
    have e:b=it:=by simpa using hb
    subst e
    exact ⟨_,st,fun v z=>by
      have z':Data.fields _=Data.cell v:=z
      cases z'⟩
  keep:=fun i h h' st k=>k it (by simp) _ st
  item:=by
    intro X hP hw hK hc i pins s σ H E I hf st hg
    subst hP hw hK
    obtain ⟨f0,f1,f2,f3,f4,f5⟩:=hf it (by simp)
    have W:=Walks.range (prog:=X.prog) (w:=X.w) (I.ok.hd hc) it lo 1 n
    refine W.item i s _ _ hg st fun v h' tk hv st' kk=>?_
    obtain ⟨t,rfl⟩:=hv
    have I1:Inv X pins σ H {s with heap:=h',toks:=tk}:=I.turned (fun b o hb e=>kk b o (by simpa using hb) e) f0 f1 f3 f4 f5
    refine ⟨_,rfl,kl (s:={s with heap:=h',toks:=tk}) (n:="range_iterator") st' rfl rfl (by decide) ⟨.int (lo+i),H,I1,⟨t,?_⟩,⟨rfl,rfl⟩,st',fun b hb=>(hf b hb).1⟩⟩
    rw [Int.mul_one]
  done:=by
    intro X hP hw hK hc i pins s σ H E I hf st hg
    subst hP hw hK
    obtain ⟨f0,f1,f2,f3,f4,f5⟩:=hf it (by simp)
    exact wpAny_pyNext_range_end (I.ok.hd hc) st (by have:n≤i:=hg;omega) fun h' eb=>⟨rfl,I.turned (t':=s.toks) (fun b o hb e=>eb b o hb e) f0 f1 f3 f4 f5⟩
  self:=fun _ _ _ _ _ st h=>wpAny_pyIter_rangeiter st h
end L2
namespace L2
open PySem PySem.Spec PyProof.Rows
section
variable {X:Cx} {tg:Expr}
def wL (K:PySem.W.Frag) (tl:TE):TI:=fun σ H R=>tl σ H fun x H1=>∃a,x= .ref a∧(∃xs,SqL K H1 a xs)∧R (yU K a) H1
def AC (K:PySem.W.Frag) (tl:TE):TI:=fun σ H R=>tl σ H fun x H1=>∃a,x= .ref a∧(∃xs,SqT K H1 a xs)∧R (AB K a) H1
theorem lq {l:Expr} {tl:TE} (hl:PE X l tl):PI X tg l (wL X.K tl):=by
  intro pins s σ H R I h
  refine bQ (hl pins s σ H _ I h) fun v s1 ⟨x,H1,I1,r1,q1⟩=>?_
  obtain ⟨a,e,⟨xs,hq⟩,q⟩:=q1
  subst e
  cases r1
  obtain ⟨its,rv,p,hz⟩:=I1.list hq
  refine wpAny_pyIter_list p.isList ?_
  refine ⟨s1.heap.objs.size,[s1.heap.objs.size],_,_,H1,rfl,I1.kept (t':=s1.toks) fun b o e=>Heap.get?_push_of_some _ e,rq a _,⟨_,Heap.get?_push_size _ rfl,rfl,rfl⟩,fun b hb=>?_,q⟩
  have e:b=s1.heap.objs.size:=by simpa using hb
  subst e
  exact I1.fpOk (Nat.le_refl _) (I1.hok.fresh (Nat.le_refl _))
theorem xG {l:Expr} {tl:TE} (hl:PE X l tl):PI X tg l (AC X.K tl):=by
  intro pins s σ H R I h
  refine bQ (hl pins s σ H _ I h) fun v s1 ⟨x,H1,I1,r1,q1⟩=>?_
  obtain ⟨a,e,⟨xs,hq⟩,q⟩:=q1
  subst e
  cases r1
  obtain ⟨its,rv,p,hz⟩:=I1.tuple hq
  refine wpAny_pyIter_tuple (show s1.heap.IsTuple a its.toArray from p) ?_
  refine ⟨s1.heap.objs.size,[s1.heap.objs.size],_,_,H1,rfl,I1.kept (t':=s1.toks) fun b o e=>Heap.get?_push_of_some _ e,oG a _,⟨_,Heap.get?_push_size _ rfl,rfl,rfl⟩,fun b hb=>?_,q⟩
  have e:b=s1.heap.objs.size:=by simpa using hb
  subst e
  exact I1.fpOk (Nat.le_refl _) (I1.hok.fresh (Nat.le_refl _))
theorem mV {pins:List (Addr×Obj)} {σ:St} {H:Hp} {s:Shared} {R:It→Hp→Prop} {E:Value→Shared→Prop} {lo hi:Int} {t u v:Tok} {tk:Nat} (I:Inv X pins σ H s) (h1: -(2 ^ 62)≤lo) (h2:lo < 2 ^ 62) (h3: -(2 ^ 62)≤hi) (h4:hi < 2 ^ 62)
    (q:R (sW lo (hi - lo).toNat) H):wpAny (model X.prog X.w) X.A (pyIter (.ref s.heap.objs.size)) (AA X pins σ tg R) E {s with heap:=s.heap.push {cls:= .type "range",data:= .fields #[.int lo t, .int hi u, .int 1 v]},toks:=tk}:=by
  refine wpAny_pyIter_range (IsRange.new ..) (small_one h1 h2 h3 h4) ?_
  have I1:Inv X pins σ H {s with heap:=s.heap.push {cls:= .type "range",data:= .fields #[.int lo t, .int hi u, .int 1 v]},toks:=tk}:=I.kept fun b o e=>Heap.get?_push_of_some _ e
  refine ⟨(s.heap.push {cls:= .type "range",data:= .fields #[.int lo t, .int hi u, .int 1 v]}).objs.size,[(s.heap.push {cls:= .type "range",data:= .fields #[.int lo t, .int hi u, .int 1 v]}).objs.size],_,_,H,rfl,
    I1.kept (t':=tk) fun b o e=>Heap.get?_push_of_some _ e,oH _ lo (hi - lo).toNat,?_,fun b hb=>?_,q⟩
  · have e1:lo+((0:Nat):Int)*1=lo:=by simp
    have e2:(((hi - lo).toNat:Nat):Int) - ((0:Nat):Int)=Builtin.Range.rangeSize lo hi 1:=by rw [rangeSize_one];split <;> omega
    show IsRangeIter _ _ (lo+((0:Nat):Int)*1) ((((hi - lo).toNat:Nat):Int) - ((0:Nat):Int)) 1
    rw [e1,e2]
    exact Heap.get?_push_size _ rfl
  · have e:b=(s.heap.push {cls:= .type "range",data:= .fields #[.int lo t, .int hi u, .int 1 v]}).objs.size:=by simpa using hb
    subst e
    exact I1.fpOk (Nat.le_refl _) (I1.hok.fresh (Nat.le_refl _))
def sX (ta:TA):TI:=fun σ H R=>ta σ H fun vs H1=>∃j:Int,vs=[.int j]∧ -(2 ^ 62)≤j∧j < 2 ^ 62∧R (sW 0 j.toNat) H1
def wM (ta:TA):TI:=fun σ H R=>ta σ H fun vs H1=>∃i j:Int,vs=[.int i, .int j]∧(-(2 ^ 62)≤i∧i < 2 ^ 62∧ -(2 ^ 62)≤j∧j < 2 ^ 62)∧R (sW i (j - i).toNat) H1
theorem km {a:Expr} {ta:TA} {p pos:Pos} (hg:Gl X "range") (hm:X.mg "range"=none) (ha:PA X [a] ta) (hs:starEach [a] X.env=[(false,eval a X.env)]:=by rfl):PI X tg (.Call (.Name "range" p) [a] [] pos) (sX ta):=by
  intro pins s σ H R I h
  refine Call_ (gW I hg hm boot_range (PyProof.Rows.callWith_type1 (bQ (ha pos pins s σ H _ I h) fun us s1 ⟨vs,H1,I1,r1,q1⟩=>?_) hs rfl))
  obtain ⟨j,e,q1,q2,q⟩:=q1
  subst e
  cases r1 with
  | cons r rr=>
    cases rr
    obtain ⟨t,rfl⟩:=r
    exact call_range_1 (mV I1 (by omega) (by omega) q1 q2 (by simpa using q))
theorem ko {a b:Expr} {ta:TA} {p pos:Pos} (hg:Gl X "range") (hm:X.mg "range"=none) (ha:PA X [a,b] ta) (hs:starEach [a,b] X.env=[(false,eval a X.env),(false,eval b X.env)]:=by rfl) (hs2:starEach [b] X.env=[(false,eval b X.env)]:=by rfl):
    PI X tg (.Call (.Name "range" p) [a,b] [] pos) (wM ta):=by
  intro pins s σ H R I h
  refine Call_ (gW I hg hm boot_range (PyProof.Rows.callWith_type1 (bQ (ha pos pins s σ H _ I h) fun us s1 ⟨vs,H1,I1,r1,q1⟩=>?_) (by rw [hs,hs2]) (by rw [hs2];rfl)))
  obtain ⟨i,j,e,⟨q1,q2,q3,q4⟩,q⟩:=q1
  subst e
  cases r1 with
  | cons r rr=>
    cases rr with
    | cons r' rr=>
      cases rr
      obtain ⟨t,rfl⟩:=r
      obtain ⟨t',rfl⟩:=r'
      exact call_range_2 (mV I1 q1 q2 q3 q4 q)
def sY (wi:TI) (g:TG) (tb:TS):TS:=fun D σ H=>wi σ H fun J H1=>∃W:Nat→Nat→St→Hp→Prop,(∃m,W 0 m σ H1)∧∀i m σ H,W i m σ H→
  (J.stop i H∧D.nx σ H)∨(J.go i H∧∃N:St→Hp→Prop,(∀σ' H',N σ' H'→∃m',m' < m∧W (i+1) m' σ' H')∧∀x H',J.yld i H x H'→g x σ H' fun σ2 H2=>tb {D with nx:=N,ct:=N,bk:=D.nx} σ2 H2)
def jy (fp:List Addr) (h:Heap):List (Addr×Obj):=fp.filterMap fun b=>(h.get? b).map fun o=>(b,o)
theorem fH {fp:List Addr} {h:Heap} {b:Addr} {o:Obj} (hb:b∈fp) (e:h.get? b=some o):(b,o)∈jy fp h:=List.mem_filterMap.mpr ⟨b,hb,by rw [e];rfl⟩
theorem rA {fp:List Addr} {h:Heap} {p:Addr×Obj} (hp:p∈jy fp h):p.1∈fp∧h.get? p.1=some p.2:=by
  obtain ⟨b,hb,e⟩:=List.mem_filterMap.mp hp
  cases q:h.get? b with
  | none=>rw [q] at e;cases e
  | some o=>
    rw [q] at e
    have e':(b,o)=p:=Option.some.inj e
    subst e'
    exact ⟨hb,q⟩
theorem Inv.pinned {pins:List (Addr×Obj)} {σ:St} {H:Hp} {s:Shared} {fp:List Addr} (I:Inv X pins σ H s) (hf:∀b∈fp,kb X pins H b) (ho:∀b∈fp,∃o,s.heap.get? b=some o∧∀v,o.data≠ .cell v):Inv X (pins++jy fp s.heap) σ H s:=
  I.pins_of fun p hp=>(List.mem_append.mp hp).elim (fun z=>I.pin p (List.mem_append_right _ z)) fun z=>by
    obtain ⟨hb,e⟩:=rA z
    obtain ⟨f0,f1,f2,_⟩:=hf p.1 hb
    obtain ⟨o,e',d⟩:=ho p.1 hb
    rw [e] at e';cases e'
    exact ⟨e,f0,f1,f2,d⟩
theorem Inv.unpinned {pins pl:List (Addr×Obj)} {σ:St} {H:Hp} {s:Shared} (I:Inv X (pins++pl) σ H s):Inv X pins σ H s:=I.pins_of fun p hp=>I.pin p (List.mem_append_right _ (List.mem_append_left _ hp))
theorem jz {iter:Expr} {body:List Stmt} {wi:TI} {g:TG} {tb:TS} {pos:Pos} (hp:PassesOwn (model X.prog X.w) X.A X.env X.xe) (hc:X.calm=true) (hi:PI X tg iter wi) (hg:PG X tg g) (hb:PSs X body tb)
    (hs:∀x,foldedSetIterable iter X.env x=pure x:=by intro _;rfl):PS X (.For tg iter body [] pos) (sY wi g tb):=by
  intro pins s σ H D I h
  refine wpAny_For (bQ (hi pins s σ H _ I h) fun v s1 h1=>bQ h1 fun itv s2 h2=>?_) hs
  obtain ⟨it,fp,tn,J,H2,e,I2,T,st2,f2,W,⟨m0,w0⟩,turn⟩:=h2
  subst e
  -- what stays true of the iterator's objects through the rf
  have stat:∀{H':Hp},(∀b∈fp,H' b=none)→∀b∈fp,kb X pins H' b:=fun hn b hb=>⟨hn b hb,(f2 b hb).2⟩
  refine codeAny_forLoop_any (fun n s'=>∃i σ' H',Inv X pins σ' H' s'∧tn i s'.heap∧(∀b∈fp,H' b=none)∧W i n σ' H') ?_ m0 ⟨0,σ,H2,I2,st2,fun b hb=>(f2 b hb).1,w0⟩
  rintro n s3 ⟨i,σ3,H3,I3,st3,fr3,w3⟩
  rcases turn i n σ3 H3 w3 with ⟨stop,qn⟩ | ⟨go,N,hN,step⟩
  · refine wpAny_passesOwn hp (bQ (T.done X rfl rfl rfl hc i pins s3 σ3 H3 X.xe I3 (stat fr3) st3 stop) fun r s4 ⟨hr,I4⟩=>?_)
    subst hr
    exact wpAny_execs_nil ⟨σ3,H3,I4,qn⟩
  · refine wpAny_passesOwn hp (bQ (T.item X rfl rfl rfl hc i pins s3 σ3 H3 X.xe I3 (stat fr3) st3 go) fun r s4 ⟨u,hr,h4⟩=>?_)
    subst hr
    refine wpAny_passesOwn hp (bQ h4 fun _ s5 ⟨x,H5,I5,r5,y5,st5,fr5⟩=>?_)
    have I5':=I5.pinned (stat fr5) (T.obj _ _ st5)
    refine wpAny_passesOwn hp (bQ (hg _ s5 σ3 H5 x u _ I5' r5 (step x H5 y5)) fun _ s6 ⟨σ6,H6,I6,q6⟩=>?_)
    refine wpAny_passesOwn hp (bQ (hb _ s6 σ6 H6 _ I6 q6) fun f s7 q7=>?_)
    have again:∀{σ7:St} {H7:Hp},Inv X (pins++jy fp s5.heap) σ7 H7 s7→N σ7 H7→∃m,m < n∧∃i σ' H',Inv X pins σ' H' s7∧tn i s7.heap∧(∀b∈fp,H' b=none)∧W i m σ' H':=fun {σ7 H7} I7 n7=>by
      obtain ⟨m',hm,w7⟩:=hN σ7 H7 n7
      refine ⟨m',hm,i+1,σ7,H7,I7.unpinned,T.keep _ _ _ st5 fun b hb o e=>(I7.pin (b,o) (List.mem_append_right _ (List.mem_append_right _ (fH hb e)))).1,fun b hb=>?_,w7⟩
      obtain ⟨o,e,d⟩:=T.obj _ _ st5 b hb
      exact (I7.pin (b,o) (List.mem_append_right _ (List.mem_append_right _ (fH hb e)))).2.1
    cases f with
    | next=>obtain ⟨σ7,H7,I7,n7⟩:=q7;exact again I7 n7
    | cont=>obtain ⟨σ7,H7,I7,n7⟩:=q7;exact again I7 n7
    | brk=>obtain ⟨σ7,H7,I7,q7⟩:=q7;exact ⟨σ7,H7,I7.unpinned,q7⟩
    | ret v=>obtain ⟨x7,σ7,H7,I7,r7,q7⟩:=q7;exact ⟨x7,σ7,H7,I7.unpinned,r7,q7⟩
end
theorem sZ {K:PySem.W.Frag} {a:Addr} {xs:List V} {g:TG} {tb:TS} {D:Ends} {σ:St} {H:Hp} (Pv:Nat→St→Hp→Prop) (h0:Pv 0 σ H) (hl:∀i σ H,i≤xs.length→Pv i σ H→SqL K H a xs)
    (hs:∀i x σ H,xs[i]? =some x→Pv i σ H→g x σ H fun σ2 H2=>tb {D with nx:=Pv (i+1),ct:=Pv (i+1),bk:=D.nx} σ2 H2) (hd:∀σ H,Pv xs.length σ H→D.nx σ H):
    ∃W:Nat→Nat→St→Hp→Prop,(∃m,W 0 m σ H)∧∀i m σ H,W i m σ H→
      ((yU K a).stop i H∧D.nx σ H)∨((yU K a).go i H∧∃N:St→Hp→Prop,(∀σ' H',N σ' H'→∃m',m' < m∧W (i+1) m' σ' H')∧∀x H',(yU K a).yld i H x H'→g x σ H' fun σ2 H2=>tb {D with nx:=N,ct:=N,bk:=D.nx} σ2 H2):=by
  refine ⟨fun i m σ H=>m=xs.length - i∧i≤xs.length∧Pv i σ H,⟨xs.length,by simp,Nat.zero_le _,h0⟩,?_⟩
  rintro i m σ H ⟨rfl,hi,p⟩
  have q:=hl i σ H hi p
  by_cases hlt:i < xs.length
  · refine .inr ⟨⟨xs,xs[i],q,by simp [hlt]⟩,Pv (i+1),fun σ' H' p'=>⟨xs.length - (i+1),by omega,rfl,hlt,p'⟩,fun x H' y=>?_⟩
    obtain ⟨e,y⟩:=y
    subst e
    exact hs i x σ _ (y xs q) p
  · have e:i=xs.length:=by omega
    subst e
    exact .inl ⟨⟨xs,q,Nat.le_refl _⟩,hd σ H p⟩
theorem rB {lo:Int} {n:Nat} {g:TG} {tb:TS} {D:Ends} {σ:St} {H:Hp} (Pv:Nat→St→Hp→Prop) (h0:Pv 0 σ H)
    (hs:∀i σ H,i < n→Pv i σ H→g (.int (lo+i)) σ H fun σ2 H2=>tb {D with nx:=Pv (i+1),ct:=Pv (i+1),bk:=D.nx} σ2 H2) (hd:∀σ H,Pv n σ H→D.nx σ H):
    ∃W:Nat→Nat→St→Hp→Prop,(∃m,W 0 m σ H)∧∀i m σ H,W i m σ H→
      ((sW lo n).stop i H∧D.nx σ H)∨((sW lo n).go i H∧∃N:St→Hp→Prop,(∀σ' H',N σ' H'→∃m',m' < m∧W (i+1) m' σ' H')∧∀x H',(sW lo n).yld i H x H'→g x σ H' fun σ2 H2=>tb {D with nx:=N,ct:=N,bk:=D.nx} σ2 H2):=by
  refine ⟨fun i m σ H=>m=n - i∧i≤n∧Pv i σ H,⟨n,by simp,Nat.zero_le _,h0⟩,?_⟩
  rintro i m σ H ⟨rfl,hi,p⟩
  by_cases hlt:i < n
  · refine .inr ⟨hlt,Pv (i+1),fun σ' H' p'=>⟨n - (i+1),by omega,rfl,hlt,p'⟩,fun x H' y=>?_⟩
    obtain ⟨e,y⟩:=y
    subst e y
    exact hs i σ _ hlt p
  · have e:i=n:=by omega
    subst e
    exact .inl ⟨Nat.le_refl _,hd σ H p⟩
end L2
namespace L2
open PySem PySem.Spec PyProof.Rows
abbrev R2:=V→V→Hp→VK→Prop
def OpR (X:Cx) (f:Value→Value→Sem Value) (r:R2):Prop:=
  ∀(pins:List (Addr×Obj)) (s:Shared) (σ:St) (H:Hp) (x y:V) (v u:Value) (Q:VK),Inv X pins σ H s→RelV x v→RelV y u→r x y H Q→
    wpAny (model X.prog X.w) X.A (f v u) (EP X pins σ Q) X.xe s
def AD (X:Cx) (f:Value→Sem Value) (r:V→Hp→VK→Prop):Prop:=
  ∀(pins:List (Addr×Obj)) (s:Shared) (σ:St) (H:Hp) (x:V) (v:Value) (Q:VK),Inv X pins σ H s→RelV x v→r x H Q→
    wpAny (model X.prog X.w) X.A (f v) (EP X pins σ Q) X.xe s
def CallR (X:Cx) (f:Value) (r:List V→Hp→VK→Prop):Prop:=
  ∀(pins:List (Addr×Obj)) (s:Shared) (σ:St) (H:Hp) (xs:List V) (us:List Value) (Q:VK),Inv X pins σ H s→Vals xs us→r xs H Q→
    wpAny (model X.prog X.w) X.A (call f us) (EP X pins σ Q) X.xe s
def AE (X:Cx) (r:V→Hp→(Bool→Hp→Prop)→Prop):Prop:=
  ∀(pins:List (Addr×Obj)) (s:Shared) (σ:St) (H:Hp) (x:V) (v:Value) (Q:Bool→Hp→Prop),Inv X pins σ H s→RelV x v→r x H Q→
    wpAny (model X.prog X.w) X.A (truthy v) (TP X pins σ Q) X.xe s
def ly (r:R2) (ta tb:TE):TE:=fun σ H Q=>ta σ H fun x H1=>tb σ H1 fun y H2=>r x y H2 Q
def Bf (r:V→Hp→VK→Prop) (ta:TE):TE:=fun σ H Q=>ta σ H fun x H1=>r x H1 Q
def rI (C:Int→Int→Prop) (g:Int→Int→V):R2:=fun x y H Q=>∃i j,x= .int i∧y= .int j∧C i j∧Q (g i j) H
def vg (g:Int→Int→V):R2:=fun x y H Q=>∃i j,x= .int i∧y= .int j∧Q (g i j) H
def rU (g:Int→V):V→Hp→VK→Prop:=fun x H Q=>∃i,x= .int i∧Q (g i) H
section
variable {X:Cx} {a b c:Expr} {ta tb tc:TE} {pos:Pos}
theorem xH (ha:PE X a ta) (hb:PE X b tb) {pins:List (Addr×Obj)} {s:Shared} {σ:St} {H:Hp} {R:V→V→Hp→Prop} (I:Inv X pins σ H s)
    (h:ta σ H fun x H1=>tb σ H1 fun y H2=>R x y H2) {Q:Value→Shared→Prop} {f:Value→Value→Sem Value}
    (hf:∀v u s2 x y H2,Inv X pins σ H2 s2→RelV x v→RelV y u→R x y H2→wpAny (model X.prog X.w) X.A (f v u) Q X.xe s2):
    wpAny (model X.prog X.w) X.A (eval a X.env) (fun v s₁=>wpAny (model X.prog X.w) X.A (eval b X.env) (fun u s₂=>wpAny (model X.prog X.w) X.A (f v u) Q X.xe s₂) X.xe s₁) X.xe s:=by
  refine bQ (ha pins s σ H _ I h) fun v s1 ⟨x,H1,I1,r1,q1⟩=>?_
  refine bQ (hb pins s1 σ H1 _ I1 q1) fun u s2 ⟨y,H2,I2,r2,q2⟩=>?_
  exact hf v u s2 x y H2 I2 r1 r2 q2
theorem fw {op:Operator} {r:R2} (ho:OpR X (binaryOp op) r) (ha:PE X a ta) (hb:PE X b tb):PE X (.BinOp a op b pos) (ly r ta tb):=by
  intro pins s σ H Q I h
  exact wpAny_BinOp (xH ha hb I h fun v u s2 x y H2 I2 rx ry q=>ho pins s2 σ H2 x y v u Q I2 rx ry q)
theorem s_ {op:UnaryOp} {r:V→Hp→VK→Prop} (ho:AD X (unaryOp op) r) (ha:PE X a ta):PE X (.UnaryOp op a pos) (Bf r ta):=by
  intro pins s σ H Q I h
  exact UnaryOp_ (bQ (ha pins s σ H _ I h) fun v s1 ⟨x,H1,I1,r1,q1⟩=>ho pins s1 σ H1 x v Q I1 r1 q1)
theorem Al {f:Value→Value→Sem Value} {C:Int→Int→Prop} {g:Int→Int→Int}
    (rule:∀(i j:Int) (t u:Tok) (s:Shared) (Q:Value→Shared→Prop) (E:Value→Shared→Prop),C i j→Q (.int (g i j) s.toks) {s with toks:=s.toks+1}→wpAny (model X.prog X.w) X.A (f (.int i t) (.int j u)) Q E s):
    OpR X f (rI C fun i j=> .int (g i j)):=by
  intro pins s σ H x y v u Q I rx ry h
  obtain ⟨i,j,rfl,rfl,hc,q⟩:=h
  obtain ⟨t,rfl⟩:=rx
  obtain ⟨t',rfl⟩:=ry
  exact rule i j t t' s _ _ hc ⟨.int (g i j),H,I.tok _,⟨_,rfl⟩,q⟩
theorem ze {f:Value→Value→Sem Value} {g:Int→Int→Int}
    (rule:∀(i j:Int) (t u:Tok) (s:Shared) (Q:Value→Shared→Prop) (E:Value→Shared→Prop),Q (.int (g i j) s.toks) {s with toks:=s.toks+1}→wpAny (model X.prog X.w) X.A (f (.int i t) (.int j u)) Q E s):
    OpR X f (vg fun i j=> .int (g i j)):=by
  intro pins s σ H x y v u Q I rx ry h
  obtain ⟨i,j,rfl,rfl,q⟩:=h
  obtain ⟨t,rfl⟩:=rx
  obtain ⟨t',rfl⟩:=ry
  exact rule i j t t' s _ _ ⟨.int (g i j),H,I.tok _,⟨_,rfl⟩,q⟩
theorem vt {f:Value→Value→Sem Value} {g:Int→Int→Bool}
    (rule:∀(i j:Int) (t u:Tok) (s:Shared) (Q:Value→Shared→Prop) (E:Value→Shared→Prop),Q (.bool (g i j)) s→wpAny (model X.prog X.w) X.A (f (.int i t) (.int j u)) Q E s):
    OpR X f (vg fun i j=> .bl (g i j)):=by
  intro pins s σ H x y v u Q I rx ry h
  obtain ⟨i,j,rfl,rfl,q⟩:=h
  obtain ⟨t,rfl⟩:=rx
  obtain ⟨t',rfl⟩:=ry
  exact rule i j t t' s _ _ ⟨.bl (g i j),H,I,rfl,q⟩
def zf (i j:Int):Prop:=0≤j∧j≤1000000∧i.natAbs < 2 ^ 64
def CMul (i j:Int):Prop:=(-(2 ^ 64) < i∧i < 2 ^ 64)∨(-(2 ^ 64) < j∧j < 2 ^ 64)
theorem CMul.ok {i j:Int} (h:CMul i j):IntMulOk i j:=by
  rcases h with ⟨h1,h2⟩ | ⟨h1,h2⟩
  · exact .of_left (intBits_le_64 h1 h2)
  · exact .of_right (intBits_le_64 h1 h2)
theorem oI:OpR X (binaryOp .Add) (vg fun i j=> .int (i+j)):=ze fun _ _ _ _ _ _ _ q=>add_int q
theorem lz:OpR X (binaryOp .Sub) (vg fun i j=> .int (i - j)):=ze fun _ _ _ _ _ _ _ q=>sub_int q
theorem xI:OpR X (binaryOp .Mod) (rI (fun _ j=>0 < j) fun i j=> .int (i % j)):=Al fun i j _ _ _ _ _ hc q=>by
  have h1:(0:Int) < j:=hc
  exact mod_int' (by omega) (by rw [Int.fmod_eq_emod_of_nonneg i (by omega)];exact q)
theorem xJ:OpR X (binaryOp .Pow) (rI zf fun i j=> .int (i ^ j.toNat)):=Al fun _ _ _ _ _ _ _ hc q=>pow_int_small hc.1 hc.2.1 hc.2.2 q
theorem Bs {f:Value→Sem Value} {g:Int→Int}
    (rule:∀(i:Int) (t:Tok) (s:Shared) (Q:Value→Shared→Prop) (E:Value→Shared→Prop),Q (.int (g i) s.toks) {s with toks:=s.toks+1}→wpAny (model X.prog X.w) X.A (f (.int i t)) Q E s):
    AD X f (rU fun i=> .int (g i)):=by
  intro pins s σ H x v Q I rx h
  obtain ⟨i,rfl,q⟩:=h
  obtain ⟨t,rfl⟩:=rx
  exact rule i t s _ _ ⟨.int (g i),H,I.tok _,⟨_,rfl⟩,q⟩
theorem oJ:AD X (unaryOp .USub) (rU fun i=> .int (-i)):=Bs fun _ _ _ _ _ q=>neg_int q
end
def xK:V→V→Bool
  | .non, .non=>true | .non, .int _=>true | .int _, .non=>true | .non, .bl _=>true | .bl _, .non=>true | .non, .str _=>true | .str _, .non=>true
  | .int _, .int _=>true | .bl _, .bl _=>true | .str _, .str _=>true | .byt _, .byt _=>true
  | .int _, .str _=>true | .str _, .int _=>true | .bl _, .str _=>true | .str _, .bl _=>true
  | _,_=>false
def AF:R2:=fun x y H Q=>xK x y=true∧Q (.bl (decide (x=y))) H
def AG:R2:=fun x y H Q=>xK x y=true∧Q (.bl (!decide (x=y))) H
theorem pX {i j:Int}:decide (V.int i=V.int j)=(i == j):=by
  rw [Bool.eq_iff_iff]
  simp
theorem tj {i j:Bool}:decide (V.bl i=V.bl j)=(i == j):=by
  rw [Bool.eq_iff_iff]
  simp
theorem pY {i j:Str}:decide (V.str i=V.str j)=(i == j):=by
  rw [Bool.eq_iff_iff]
  simp
theorem pZ {i j:Array UInt8}:decide (V.byt i=V.byt j)=(i.toList == j.toList):=by
  rw [Bool.eq_iff_iff]
  cases i
  cases j
  simp
section
variable {X:Cx} {a b c:Expr} {ta tb tc:TE} {pos:Pos}
theorem aJ {pins:List (Addr×Obj)} {σ:St} {H:Hp} {s:Shared} {Q:VK} {k k':Bool} (I:Inv X pins σ H s) (q:Q (.bl k) H) (e:k=k'):EP X pins σ Q (.bool k') s:=by
  subst e
  exact ⟨.bl k,H,I,rfl,q⟩
theorem wN:OpR X (compareOp .Eq) AF:=by
  intro pins s σ H x y v u Q I rx ry h
  obtain ⟨hs,q⟩:=h
  cases x with
  | non=>
    cases rx
    cases y with
    | non=>cases ry;exact PySem.EqNone.eq_none_none (aJ I q (by simp))
    | bl j=>cases ry;exact PySem.EqNone.eq_none_bool (aJ I q (by simp))
    | int j=>obtain ⟨t',rfl⟩:=ry;exact PySem.EqNone.eq_none_int (aJ I q (by simp))
    | str j=>obtain ⟨t',rfl⟩:=ry;exact PySem.EqNone.eq_none_str (aJ I q (by simp))
    | _=>exact absurd (show false=true from hs) Bool.false_ne_true
  | bl i=>
    cases rx
    cases y with
    | non=>cases ry;exact PySem.EqNone.eq_bool_none (aJ I q (by simp))
    | bl j=>cases ry;exact eq_bool (aJ I q tj)
    | str j=>obtain ⟨t',rfl⟩:=ry;exact PySem.EqMixed.eq_bool_str (aJ I q (by simp))
    | _=>exact absurd (show false=true from hs) Bool.false_ne_true
  | int i=>
    obtain ⟨t,rfl⟩:=rx
    cases y with
    | non=>cases ry;exact PySem.EqNone.eq_int_none (aJ I q (by simp))
    | int j=>obtain ⟨t',rfl⟩:=ry;exact eq_int (aJ I q pX)
    | str j=>obtain ⟨t',rfl⟩:=ry;exact PySem.EqMixed.eq_int_str (aJ I q (by simp))
    | _=>exact absurd (show false=true from hs) Bool.false_ne_true
  | str i=>
    obtain ⟨t,rfl⟩:=rx
    cases y with
    | non=>cases ry;exact PySem.EqNone.eq_str_none (aJ I q (by simp))
    | bl j=>cases ry;exact PySem.EqMixed.eq_str_bool (aJ I q (by simp))
    | int j=>obtain ⟨t',rfl⟩:=ry;exact PySem.EqMixed.eq_str_int (aJ I q (by simp))
    | str j=>obtain ⟨t',rfl⟩:=ry;exact eq_str (aJ I q pY)
    | _=>exact absurd (show false=true from hs) Bool.false_ne_true
  | byt i=>
    obtain ⟨t,rfl⟩:=rx
    cases y with
    | byt j=>obtain ⟨t',rfl⟩:=ry;exact PySem.W.eq_bytes (aJ I q pZ)
    | _=>exact absurd (show false=true from hs) Bool.false_ne_true
  | _=>cases y <;> exact absurd (show false=true from hs) Bool.false_ne_true
theorem wO:OpR X (compareOp .NotEq) AG:=by
  intro pins s σ H x y v u Q I rx ry h
  obtain ⟨hs,q⟩:=h
  cases x with
  | non=>
    cases rx
    cases y with
    | non=>cases ry;exact PySem.EqNone.ne_none_none (aJ I q (by simp))
    | bl j=>cases ry;exact PySem.EqNone.ne_none_bool (aJ I q (by simp))
    | int j=>obtain ⟨t',rfl⟩:=ry;exact PySem.EqNone.ne_none_int (aJ I q (by simp))
    | str j=>obtain ⟨t',rfl⟩:=ry;exact PySem.EqNone.ne_none_str (aJ I q (by simp))
    | _=>exact absurd (show false=true from hs) Bool.false_ne_true
  | bl i=>
    cases rx
    cases y with
    | non=>cases ry;exact PySem.EqNone.ne_bool_none (aJ I q (by simp))
    | bl j=>cases ry;exact ne_bool (aJ I q (congrArg not tj))
    | str j=>obtain ⟨t',rfl⟩:=ry;exact PySem.EqMixed.ne_bool_str (aJ I q (by simp))
    | _=>exact absurd (show false=true from hs) Bool.false_ne_true
  | int i=>
    obtain ⟨t,rfl⟩:=rx
    cases y with
    | non=>cases ry;exact PySem.EqNone.ne_int_none (aJ I q (by simp))
    | int j=>obtain ⟨t',rfl⟩:=ry;exact ne_int (aJ I q (congrArg not pX))
    | str j=>obtain ⟨t',rfl⟩:=ry;exact PySem.EqMixed.ne_int_str (aJ I q (by simp))
    | _=>exact absurd (show false=true from hs) Bool.false_ne_true
  | str i=>
    obtain ⟨t,rfl⟩:=rx
    cases y with
    | non=>cases ry;exact PySem.EqNone.ne_str_none (aJ I q (by simp))
    | bl j=>cases ry;exact PySem.EqMixed.ne_str_bool (aJ I q (by simp))
    | int j=>obtain ⟨t',rfl⟩:=ry;exact PySem.EqMixed.ne_str_int (aJ I q (by simp))
    | str j=>obtain ⟨t',rfl⟩:=ry;exact ne_str (aJ I q (congrArg not pY))
    | _=>exact absurd (show false=true from hs) Bool.false_ne_true
  | byt i=>
    obtain ⟨t,rfl⟩:=rx
    cases y with
    | byt j=>obtain ⟨t',rfl⟩:=ry;exact PySem.W.ne_bytes (aJ I q (congrArg not pZ))
    | _=>exact absurd (show false=true from hs) Bool.false_ne_true
  | _=>cases y <;> exact absurd (show false=true from hs) Bool.false_ne_true
theorem zg:OpR X (compareOp .Lt) (vg fun i j=> .bl (decide (i < j))):=vt fun _ _ _ _ _ _ _ q=>lt_int q
theorem zh:OpR X (compareOp .LtE) (vg fun i j=> .bl (decide (i≤j))):=vt fun _ _ _ _ _ _ _ q=>le_int q
theorem zi:OpR X (compareOp .Gt) (vg fun i j=> .bl (decide (j < i))):=vt fun _ _ _ _ _ _ _ q=>gt_int q
theorem zj:OpR X (compareOp .GtE) (vg fun i j=> .bl (decide (j≤i))):=vt fun _ _ _ _ _ _ _ q=>ge_int q
theorem rC:OpR X (compareOp .Lt) (fun x y H Q=>∃i j,x= .str i∧y= .str j∧Q (.bl (decide (i.cps.toList < j.cps.toList))) H):=by
  intro pins s σ H x y v u Q I rx ry h
  obtain ⟨i,j,rfl,rfl,q⟩:=h
  obtain ⟨t,rfl⟩:=rx
  obtain ⟨t',rfl⟩:=ry
  exact lt_str (aJ I q rfl)
theorem OpR.or {f:Value→Value→Sem Value} {r r':R2} (h:OpR X f r) (h':OpR X f r'):OpR X f (fun x y H Q=>r x y H Q∨r' x y H Q):=by
  intro pins s σ H x y v u Q I rx ry q
  rcases q with q | q
  · exact h pins s σ H x y v u Q I rx ry q
  · exact h' pins s σ H x y v u Q I rx ry q
theorem jA (b:Expr) {op:CmpOp} (h:op≠ .In:=by decide) (h2:op≠ .NotIn:=by decide):behindInMarks op b=false:=by
  have e1:(op == CmpOp.In)=false:=by cases op <;> first | rfl | exact absurd rfl h
  have e2:(op == CmpOp.NotIn)=false:=by cases op <;> first | rfl | exact absurd rfl h2
  cases b <;> simp [behindInMarks,e1,e2]
theorem vv {op:CmpOp} {r:R2} (ho:OpR X (compareOp op) r) (ha:PE X a ta) (hb:PE X b tb) (hm:behindInMarks op b=false):PE X (.Compare a [op] [b] pos) (ly r ta tb):=by
  intro pins s σ H Q I h
  exact wpAny_Compare1 (xH ha hb I h fun v u s2 x y H2 I2 rx ry q=>ho pins s2 σ H2 x y v u Q I2 rx ry q) hm
def p6 (t:TE):TT:=fun σ H Q=>t σ H fun x H'=>∃k,x= .bl k∧Q k H'
theorem lA {op:CmpOp} {r:R2} (ho:OpR X (compareOp op) r) (ha:PE X a ta) (hb:PE X b tb) (hm:behindInMarks op b=false):PT X (.Compare a [op] [b] pos) (p6 (ly r ta tb)):=by
  intro pins s σ H Q I h
  refine wpAny_isTrue_Compare1 (bQ (ha pins s σ H _ I h) fun v s1 ⟨x,H1,I1,r1,q1⟩=>bQ (hb pins s1 σ H1 _ I1 q1) fun u s2 ⟨y,H2,I2,r2,q2⟩=>
    bQ (ho pins s2 σ H2 x y v u _ I2 r1 r2 q2) fun c s3 ⟨z,H3,I3,r3,k,e,q3⟩=>?_) hm
  subst e
  cases r3
  exact wpAny_truthy_bool ⟨H3,I3,q3⟩
def tm (r r':R2) (ta tb tc:TE):TE:=fun σ H Q=>ta σ H fun x H1=>tb σ H1 fun y H2=>r x y H2 fun z H3=>∃k,z= .bl k∧
  (if k=true then tc σ H3 fun w' H4=>r' y w' H4 Q else Q (.bl false) H3)
theorem tp {op op':CmpOp} {r r':R2} (ho:OpR X (compareOp op) r) (ho':OpR X (compareOp op') r') (ha:PE X a ta) (hb:PE X b tb) (hc:PE X c tc)
    (hm:lastMarks [op,op'] [b,c]=false:=by with_unfolding_all rfl):PT X (.Compare a [op,op'] [b,c] pos) (p6 (tm r r' ta tb tc)):=by
  intro pins s σ H Q I h
  refine isTrue_chain (bQ (ha pins s σ H _ I h) fun v s1 ⟨x,H1,I1,r1,q1⟩=>test_link (bQ (hb pins s1 σ H1 _ I1 q1) fun u s2 ⟨y,H2,I2,r2,q2⟩=>
    bQ (ho pins s2 σ H2 x y v u _ I2 r1 r2 q2) fun d s3 ⟨z,H3,I3,r3,k,e,q3⟩=>?_)) hm
  subst e
  cases r3
  refine wpAny_truthy_bool ?_
  cases k with
  | false=>
    obtain ⟨k',e',q'⟩:=q3
    cases e'
    exact ite_ff ⟨H3,I3,q'⟩
  | true=>
    refine ite_tt (test_last (bQ (hc pins s3 σ H3 _ I3 q3) fun w' s4 ⟨z',H4,I4,r4,q4⟩=>bQ (ho' pins s4 σ H4 y z' u w' _ I4 r2 r4 q4) fun d' s5 ⟨z2,H5,I5,r5,k2,e2,q5⟩=>?_))
    subst e2
    cases r5
    exact wpAny_truthy_bool ⟨H5,I5,q5⟩
def tu (K:PySem.W.Frag) (x:V) (H:Hp) (k:Bool):Prop:=
  match x with
  | .non=>k=false
  | .bl b=>k=b
  | .int i=>k=(i != 0)
  | .str y=>y.length≤sizeLine∧k=((y.length:Int) != 0)
  | .byt y=>y.size≤sizeLine∧k=((y.size:Int) != 0)
  | .ref p=>(∃xs,SqL K H p xs∧k= !xs.isEmpty)∨(∃xs,SqT K H p xs∧k= !xs.isEmpty)∨∃kvs,H p=some (.dK kvs)∧k= !kvs.isEmpty
  | _=>False
theorem oK {κ:Type} {kvs:List (κ×V)} {vs:List (κ×Value)} (r:KV kvs vs):(!vs.isEmpty)= !kvs.isEmpty:=by
  cases r <;> rfl
theorem jB {xs:List V} {its:List Value} (r:Vals xs its):(!its.toArray.isEmpty)= !xs.isEmpty:=by
  cases r <;> simp
theorem gX:(sizeLine:Nat) < 2 ^ 63:=by rw [sizeLine_eq];decide
theorem xL:AE X (fun x H Q=>∃k,tu X.K x H k∧Q k H):=by
  intro pins s σ H x v Q I rx h
  obtain ⟨k,e,q⟩:=h
  have hl:=gX
  have hs:sizeLine=16777216:=sizeLine_eq
  cases x with
  | non=>
    cases rx
    have e':k=false:=e
    subst e'
    exact truthy_none ⟨H,I,q⟩
  | bl b=>
    cases rx
    have e':k=b:=e
    subst e'
    exact wpAny_truthy_bool ⟨H,I,q⟩
  | int i=>
    obtain ⟨t,rfl⟩:=rx
    have e':k=(i != 0):=e
    subst e'
    exact PySem.P.truthy_int ⟨H,I,q⟩
  | str y=>
    obtain ⟨t,rfl⟩:=rx
    obtain ⟨hy,e'⟩:y.length≤sizeLine∧k=((y.length:Int) != 0):=e
    subst e'
    exact PySem.P.truthy_str (by omega) ⟨H,I.tok _,q⟩
  | byt y=>
    obtain ⟨t,rfl⟩:=rx
    obtain ⟨hy,e'⟩:y.size≤sizeLine∧k=((y.size:Int) != 0):=e
    subst e'
    exact PySem.W.truthy_bytes (by omega) ⟨H,I.tok _,q⟩
  | ref p=>
    cases rx
    have e':(∃xs,SqL X.K H p xs∧k= !xs.isEmpty)∨(∃xs,SqT X.K H p xs∧k= !xs.isEmpty)∨∃kvs,H p=some (.dK kvs)∧k= !kvs.isEmpty:=e
    rcases e' with ⟨xs,hx,e'⟩ | ⟨xs,hx,e'⟩ | ⟨kvs,hx,e'⟩
    · subst e'
      obtain ⟨its,r,pl,hz⟩:=I.list hx
      have hlen:=r.length
      exact wpAny_truthy_list pl.isList (by simp only [List.size_toArray];omega) ⟨H,I.tok _,by rw [jB r];exact q⟩
    · subst e'
      obtain ⟨its,r,pl,hz⟩:=I.tuple hx
      have hlen:=r.length
      exact truthy_tuple pl (by simp only [List.size_toArray];omega) ⟨H,I.tok _,by rw [jB r];exact q⟩
    · subst e'
      obtain ⟨hz,hS,vs,r,m⟩:kvs.length≤sizeLine∧(p == sysModules)=false∧∃vs,KV kvs vs∧s.heap.DictOf (aP X.prog X.w) p vs:=I.hok p _ hx
      have hlen:kvs.length=vs.length:=Paired.length r
      exact wpAny_truthy_dict hS m (by omega) ⟨H,I.tok _,by rw [oK r];exact q⟩
  | _=>exact (show False from e).elim
theorem tw (ha:PE X a ta) (he:∀whole,isTrue a X.env whole=(do let v ←whole;standAt a.pos;holding [v] (truthy v))):
    PT X a (fun σ H Q=>ta σ H fun x H'=>∃k,tu X.K x H' k∧Q k H'):=by
  intro pins s σ H Q I h
  exact isTrue_plain (bQ (ha pins s σ H _ I h) fun v s1 ⟨x,H1,I1,r1,q1⟩=>xL pins s1 σ H1 x v Q I1 r1 q1) (he _)
theorem oM:OpR X (binaryOp .Add) (fun x y H Q=>∃i j,x= .str i∧y= .str j∧i.length+j.length≤sizeLine∧Q (.str (i++j)) H):=by
  intro pins s σ H x y v u Q I rx ry h
  obtain ⟨i,j,rfl,rfl,hz,q⟩:=h
  obtain ⟨t,rfl⟩:=rx
  obtain ⟨t',rfl⟩:=ry
  exact add_str (fun t' tk=>⟨.str (i++j),H,I.tok _,⟨_,rfl⟩,q⟩) hz
theorem kq {x:V} {us:List Value} (r:Vals [x] us):∃u,us=[u]∧RelV x u:=by
  cases r with
  | cons r1 r2=>cases r2;exact ⟨_,rfl,r1⟩
theorem tz:CallR X (.builtin "abs") (fun xs H Q=>∃i,xs=[.int i]∧Q (.int (if i < 0 then -i else i)) H):=by
  intro pins s σ H xs us Q I r h
  obtain ⟨i,rfl,q⟩:=h
  obtain ⟨u,rfl,t,rfl⟩:=kq r
  exact call_abs_int fun u tk=>⟨.int (if i < 0 then -i else i),H,I.tok _,⟨_,rfl⟩,q⟩
theorem rD:CallR X (.type "int") (fun xs H Q=>(∃i,xs=[.int i]∧Q (.int i) H)∨∃k,xs=[.bl k]∧Q (.int (if k then 1 else 0)) H):=by
  intro pins s σ H xs us Q I r h
  rcases h with ⟨i,rfl,q⟩ | ⟨k,rfl,q⟩
  · obtain ⟨u,rfl,t,rfl⟩:=kq r
    exact call_int_int ⟨.int i,H,I,⟨_,rfl⟩,q⟩
  · obtain ⟨u,rfl,r1⟩:=kq r
    cases r1
    exact call_int_bool ⟨.int (if k then 1 else 0),H,I.tok _,⟨_,rfl⟩,q⟩
end
end L2
namespace L2
open PySem PySem.Spec PyProof.Rows
structure ObjM (h:Heap) (x dx C:Addr) (mA:Str→Option Value):Prop where
  obj:h.get? x=some (PySem.W.instObj C dx)
  ns:h.Ns1 dx mA
  ne:dx≠x
theorem rE {h:Heap} {dx:Addr} {mA:Str→Option Value} (n:h.Ns1 dx mA):∃od,h.get? dx=some od∧∀name,PySem.W.lookIn name od=some (mA name):=by
  obtain ⟨o,es,ep,ho,hd,hk,_,hm⟩:=n
  refine ⟨o,ho,fun name=>?_⟩
  have e:=hm name
  unfold nsFind findBy at e
  rw [←Array.find?_toList] at e
  unfold PySem.W.lookIn
  rw [hd]
  dsimp only
  split
  · rename_i y q
    rw [q] at e
    exact congrArg some e
  · rename_i q
    rw [q] at e
    have a:es.toList.any (·.refKey)=false:=by
      rw [List.any_eq_false]
      intro y hy
      obtain ⟨z,t,hkey⟩:=hk y (Array.mem_toList_iff.mp hy)
      simp [DictEntry.refKey,hkey]
    have a':¬es.toList.any (·.refKey)=true:=by rw [a];exact Bool.false_ne_true
    rw [if_neg a']
    exact congrArg some e
theorem ObjM.look {h:Heap} {x dx C:Addr} {mA:Str→Option Value} (I:ObjM h x dx C mA):∃od,PySem.W.InstAt h x (PySem.W.instObj C dx) C (some od)∧∀name,PySem.W.lookIn name od=some (mA name):=
  let ⟨od,ho,hl⟩:=rE I.ns
  ⟨od,⟨I.obj,rfl,rfl,ho⟩,hl⟩
theorem RelO.some_of {v:V} {o:Option Value} (r:RelO (some v) o):∃u,o=some u∧RelV v u:=by
  cases o with
  | none=>exact (show False from r).elim
  | some u=>exact ⟨u,rfl,r⟩
theorem RelO.none_of {o:Option Value} (r:RelO none o):o=none:=by
  cases o with
  | none=>rfl
  | some u=>exact (show False from r).elim
section
variable {P:Program} {w:World} {H H':Hp} {h h':Heap} {a C dx:Addr} {fs fs':List (Str×V)}
theorem vw (hok:HOk P w H h) (e:H a=some (.ins C dx fs)):∃mA,ObjM h a dx C mA∧(∀f,RelO (fs.lookup f) (mA f))∧PySem.Within mA (fs.map (·.1))∧fs.length≤1000∧H dx=some (.own a):=by
  obtain ⟨d,z,ne,ob,mA,n,r,q⟩:=(show ObjOk P w H h a (.ins C dx fs) from hok a _ e)
  exact ⟨mA,⟨ob,n,ne⟩,r,q,z,d⟩
end
structure Cls (K:PySem.W.Frag) (C:Addr):Prop where
  pg:PySem.W.plainGet K C Str.empty=true
  hd:PySem.W.hasDictIn K C=true
  po:PySem.W.plainOver K C=true
  sa:PySem.W.findIn K (.ref C) "__setattr__"=some (some (.builtin "object.__setattr__"))
theorem Cls.get {K:PySem.W.Frag} {C:Addr} (c:Cls K C) (f:Str):PySem.W.plainGet K C f=true:=c.pg
section
variable {X:Cx} {pins:List (Addr×Obj)} {σ:St} {H:Hp} {s:Shared} {A:Around} {E:Value→Shared→Prop} {Q:Value→Shared→Prop} {c:Value} {b:Bool}
inductive TyOf (K:PySem.W.Frag) (H:Hp):V→Value→Prop where
  | non:TyOf K H .non (.type "NoneType")
  | bl (x:Bool):TyOf K H (.bl x) (.type "bool")
  | int (i:Int):TyOf K H (.int i) (.type "int")
  | str (x:Str):TyOf K H (.str x) (.type "str")
  | flt (x:UInt64):TyOf K H (.flt x) (.type "float")
  | lst {a:Addr} {xs:List V} (e:H a=some (.lst xs)):TyOf K H (.ref a) (.type "list")
  | frz {a:Addr} {o:Obj} {xs:List V} (e:H a=some (.frz o (.lst xs))):TyOf K H (.ref a) (.type "list")
  | tup {a:Addr} {xs:List V} (e:H a=some (.tup xs)):TyOf K H (.ref a) (.type "tuple")
  | dK {a:Addr} {kvs:List (bu×V)} (e:H a=some (.dK kvs)):TyOf K H (.ref a) (.type "dict")
  | dT {a:Addr} {kvs:List (List bu×V)} (e:H a=some (.dT kvs)):TyOf K H (.ref a) (.type "dict")
  | ins {a C dx:Addr} {fs:List (Str×V)} (e:H a=some (.ins C dx fs)) (cl:Cls K C) (ha:PySem.W.findIn K (.ref C) "__class__"=some (some (.builtin "object.__class__")))
      (hn:PySem.W.specialIn K (.builtin "object.__class__") "__get__"=some (some (.builtin "getset_descriptor.__get__"))) (htk:PySem.W.takesIn K (.builtin "object.__class__")=some true)
      (hm:PySem.W.mroIn K C (.type "object")=some true):TyOf K H (.ref a) (.ref C)
theorem gw {x:V} {u t:Value} (I:Inv X pins σ H s) (rx:RelV x u) (ty:TyOf X.K H x t) (e:PySem.W.kitOne X.K t c=some b) (h:∀tk,Q (.bool b) {s with toks:=tk}):
    wpAny (model X.prog X.w) A (call (.builtin "isinstance") [u,c]) Q E s:=by
  cases ty with
  | non=>cases (show u=Value.none from rx);exact PySem.W.kia_one PySem.W.kitx_none I.kIn True.intro e (fun z=>nomatch z) h
  | bl y=>cases (show u=Value.bool y from rx);exact PySem.W.kia_one PySem.W.kitx_bool I.kIn True.intro e (fun z=>nomatch z) h
  | int i=>obtain ⟨t,q⟩:=(show ∃t,u=Value.int i t from rx);cases q;exact PySem.W.kia_one PySem.W.kitx_int I.kIn True.intro e (fun z=>nomatch z) h
  | str y=>obtain ⟨t,q⟩:=(show ∃t,u=Value.str y t from rx);cases q;exact PySem.W.kia_one PySem.W.kitx_str I.kIn True.intro e (fun z=>nomatch z) h
  | flt y=>obtain ⟨t,q⟩:=(show ∃t,u=Value.float y t from rx);cases q;exact PySem.W.kia_one PySem.W.kitx_float I.kIn True.intro e (fun z=>nomatch z) h
  | @lst a xs ea=>
    cases (show u=Value.ref a from rx)
    obtain ⟨_,_,n,_,h1⟩:=(show ObjOk X.prog X.w H s.heap a (.lst xs) from I.hok a _ ea)
    exact PySem.W.kia_one PySem.W.kitx_list I.kIn ⟨_,h1,rfl⟩ e (fun z=>nomatch z) h
  | @frz a ob xs ea=>
    cases (show u=Value.ref a from rx)
    obtain ⟨_,_,_,n,_,h1⟩:=(show ObjOk X.prog X.w H s.heap a (.frz ob (.lst xs)) from I.hok a _ ea)
    exact PySem.W.kia_one PySem.W.kitx_list I.kIn ⟨_,h1,rfl⟩ e (fun z=>nomatch z) h
  | @tup a xs ea=>
    cases (show u=Value.ref a from rx)
    obtain ⟨_,_,_,p⟩:=(show ObjOk X.prog X.w H s.heap a (.tup xs) from I.hok a _ ea)
    obtain ⟨o,h1,h2,_⟩:=p
    exact PySem.W.kia_one PySem.W.kitx_tuple I.kIn ⟨o,h1,h2⟩ e (fun z=>nomatch z) h
  | @dK a kvs ea=>
    cases (show u=Value.ref a from rx)
    obtain ⟨_,_,vs,_,p⟩:=(show ObjOk X.prog X.w H s.heap a (.dK kvs) from I.hok a _ ea)
    obtain ⟨o,es,ep,h1,h2,_⟩:=p
    exact PySem.W.kia_one PySem.W.kitx_dict I.kIn ⟨o,h1,h2.1⟩ e (fun z=>nomatch z) h
  | @dT a kvs ea=>
    cases (show u=Value.ref a from rx)
    obtain ⟨_,_,xs,_,o,es,ep,h1,h2,_⟩:=(show ObjOk X.prog X.w H s.heap a (.dT kvs) from I.hok a _ ea)
    exact PySem.W.kia_one PySem.W.kitx_dict I.kIn ⟨o,h1,h2.1⟩ e (fun z=>nomatch z) h
  | @ins a C dx fs ea cl ha hn htk hm=>
    cases (show u=Value.ref a from rx)
    obtain ⟨mA,O,_⟩:=vw I.hok ea
    obtain ⟨od,J,_⟩:=O.look
    exact PySem.W.kia_one (PySem.W.kitx_own (cl.get _) cl.hd ha hn htk hm) I.kIn J e (fun z=>nomatch z) h
end
end L2
namespace L2
open PySem PySem.Spec PyProof.Rows
structure Room (k:Nat) (A:Around):Prop where
  hd:A.handled=none
  dp:A.depth+3*k+5 < recursionLimit
  un:A.units+16*k+200 < cLine
theorem Room.mono {j k:Nat} {A:Around} (r:Room k A) (h:j≤k):Room j A:=⟨r.hd,by have:=r.dp;omega,by have:=r.un;omega⟩
theorem Room.deeper {k:Nat} {A:Around} (r:Room (k+1) A) (env:Env):Room k (A.deeper env):=
  ⟨r.hd,by have:=r.dp;show A.depth+1+3*k+5 < _;omega,by have:=r.un;show A.units+3+16*k+200 < _;omega⟩
theorem Room.in1 {k:Nat} {A:Around} (r:Room (k+1) A):Room k A.in1:=
  ⟨r.hd,by have:=r.dp;show A.depth+3*k+5 < _;omega,by have:=r.un;show A.units+1+16*k+200 < _;omega⟩
theorem Room.depth {k:Nat} {A:Around} (r:Room k A):A.depth < recursionLimit:=by have:=r.dp;omega
theorem Room.units {k:Nat} {A:Around} (r:Room k A):A.units+64 < cLine:=by have:=r.un;omega
def ja:TA:=fun _ H Q=>Q [] H
def cR (ta:TE) (tr:TA):TA:=fun σ H Q=>ta σ H fun x H1=>tr σ H1 fun xs H2=>Q (x::xs) H2
section
variable {X:Cx} {e:Expr} {es:List Expr} {te:TE} {t:TA} {pos:Pos}
theorem cw:PA X [] ja:=fun _ _ _ _ H Q I h=>Calls.spliced_nil ⟨[],H,I, .nil,h⟩
theorem aK (ha:PE X e te) (hr:PA X es t) (hs:starEach (e::es) X.env=(false,eval e X.env)::starEach es X.env:=by rfl):PA X (e::es) (cR te t):=by
  intro pos pins s σ H Q I h
  rw [hs]
  show wpAny _ _ (spliced ((false,eval e X.env)::backTo pos (starEach es X.env))) _ _ s
  refine Calls.spliced_cons (bQ (ha pins s σ H _ I h) fun u s1 ⟨x,H1,I1,r1,q1⟩=>?_)
  exact bQ (hr pos pins s1 σ H1 _ I1 q1) fun us s2 ⟨xs,H2,I2,r2,q2⟩=>⟨x::xs,H2,I2, .cons r1 r2,q2⟩
def AH (t:TA):TE:=fun σ H Q=>t σ H fun xs H1=>xs.length≤sizeLine∧∀p,H1 p=none→Q (.ref p) (upd H1 p (.tup xs))
def zk (t:TA):TE:=fun σ H Q=>t σ H fun xs H1=>xs.length≤sizeLine∧∀p,H1 p=none→Q (.ref p) (upd H1 p (.lst xs))
theorem xM {x1} (h:PA X es t):PE X (.Tuple es x1 pos) (AH t):=by
  intro pins s σ H Q I hq
  refine wpAny_Tuple_spliced (bQ (h pos pins s σ H _ I hq) fun us s1 ⟨xs,H1,I1,r,z,q⟩=>⟨by rw [←r.length];exact z,?_⟩)
  have hf:H1 s1.heap.objs.size=none:=I1.hok.fresh (Nat.le_refl _)
  refine ⟨.ref s1.heap.objs.size,upd H1 s1.heap.objs.size (.tup xs),I1.laid (t':=s1.toks) (fun b u e=>Heap.get?_push_of_some _ e) (Nat.le_refl _) ?_,rfl,q _ hf⟩
  exact ⟨z,us,r,⟨_,Heap.get?_push_size _ rfl,rfl,_,rfl⟩⟩
theorem tB (h:PA X es t):PE X (.List es pos) (zk t):=by
  intro pins s σ H Q I hq
  refine wpAny_List_spliced (bQ (h pos pins s σ H _ I hq) fun us s1 ⟨xs,H1,I1,r,z,q⟩=>⟨by rw [←r.length];exact z,?_⟩)
  have hf:H1 s1.heap.objs.size=none:=I1.hok.fresh (Nat.le_refl _)
  refine ⟨.ref s1.heap.objs.size,upd H1 s1.heap.objs.size (.lst xs),I1.laid (t':=s1.toks) (fun b u e=>Heap.get?_push_of_some _ e) (Nat.le_refl _) ?_,rfl,q _ hf⟩
  exact ⟨z,us,0,r,Heap.get?_push_size _ rfl⟩
end
abbrev Sp:=List V→Hp→VK→XK→Prop
abbrev sO:=List Env→Hp→Shared→XK→Value→Shared→Prop
structure Env0 (P:Program) (w:World) (K:PySem.W.Frag) (mg:Str→Option Value) (base:Heap) (A:Around) (outer:List Env) (s:Shared) (H:Hp):Prop where
  frames:A.frames=some outer
  mod:Mod K mg base
  bs:∀b o,base.get? b=some o→s.heap.get? b=some o∧H b=none
  bsz:base.objs.size≤s.heap.objs.size
  funs:s.heap.FunFrames base outer
  frf:∀b∈sN outer,H b=none
  hok:HOk P w H s.heap
  bare:AllBare s.gens
  tab:∀b q,jv K b=some q→H b=some (.tbl q)
def CE (outer:List Env) (P:Program) (w:World) (H:Hp) (s:Shared) (Q:VK) (u:Value) (s':Shared):Prop:=
  ∃v H',s'.os=s.os∧AllBare s'.gens∧Un (sN outer) [] H H' s.heap s'.heap∧HOk P w H' s'.heap∧RelV v u∧Q v H'
def CR (CX:sO) (outer:List Env) (P:Program) (w:World) (H:Hp) (s:Shared) (Q:VK) (E:XK) (r:Result) (s':Shared):Prop:=
  match r with
  | .ok (.ret u)=>CE outer P w H s Q u s'
  | .ok _=>False
  | .error e=>CX outer H s E e s'
structure FnOk (P:Program) (w:World) (K:PySem.W.Frag) (mg:Str→Option Value) (base:Heap) (CX:sO) (k:Nat) (f:Addr) (fd:FuncData) (ps:List Str) (sp:Sp):Prop where
  len:∀vs H Q E,sp vs H Q E→vs.length=ps.length
  run:∀(A:Around) (outer:List Env) (s:Shared) (H:Hp) (args:Args) (us:List Value) (vs:List V) (Q:VK) (E:XK),Room k A→Env0 P w K mg base A outer s H→BindsTo s fd args (ps.zip us)→Vals vs us→sp vs H Q E→
    codeAny (model P w) A (.call (.ref f) args) (CR CX outer P w H s Q E) s
theorem FnOk.mono {P:Program} {w:World} {K:PySem.W.Frag} {mg:Str→Option Value} {base:Heap} {CX:sO} {j k:Nat} {f:Addr} {fd:FuncData} {ps:List Str} {sp:Sp} (F:FnOk P w K mg base CX j f fd ps sp) (h:j≤k):
    FnOk P w K mg base CX k f fd ps sp:=⟨F.len,fun A outer s H args us vs Q E hr=>F.run A outer s H args us vs Q E (hr.mono h)⟩
theorem FnOk.imp {P:Program} {w:World} {K:PySem.W.Frag} {mg:Str→Option Value} {base:Heap} {CX:sO} {k:Nat} {f:Addr} {fd:FuncData} {ps:List Str} {sp sp':Sp} (F:FnOk P w K mg base CX k f fd ps sp)
    (h:∀vs H Q E,sp' vs H Q E→sp vs H Q E):FnOk P w K mg base CX k f fd ps sp':=
  ⟨fun vs H Q E q=>F.len vs H Q E (h _ _ _ _ q),fun A outer s H args us vs Q E hr he hb hv hs=>F.run A outer s H args us vs Q E hr he hb hv (h _ _ _ _ hs)⟩
theorem Env0.in1 {P:Program} {w:World} {K:PySem.W.Frag} {mg:Str→Option Value} {base:Heap} {A:Around} {outer:List Env} {s:Shared} {H:Hp} (e:Env0 P w K mg base A outer s H):
    Env0 P w K mg base A.in1 outer s H:=⟨e.frames,e.mod,e.bs,e.bsz,e.funs,e.frf,e.hok,e.bare,e.tab⟩
section
variable {X:Cx} {pins:List (Addr×Obj)} {σ:St} {H:Hp} {s s':Shared}
theorem Inv.env0 (I:Inv X pins σ H s):Env0 X.prog X.w X.K X.mg X.base X.A X.stack s H:=
  ⟨I.ok.frames,I.ok.mod,I.bs,Nat.le_trans I.ok.bsz I.sz,I.stack,I.stkFree,I.hok,I.bare,I.tab⟩
theorem Inv.after {Q:VK} {u:Value} (I:Inv X pins σ H s) (h:CE X.stack X.prog X.w H s Q u s'):EP X pins σ Q u s':=by
  obtain ⟨v,H',os,bare,un,hok,r,q⟩:=h
  obtain ⟨hh,g,d,t,os'⟩:=s'
  obtain rfl:os'=s.os:=os
  exact ⟨v,H',I.call (h':=hh) (g':=g) (d':=d) (t':=t) (ch:=[]) un hok bare (fun b z=>absurd z (by simp)),r,q⟩
end
def kr (sp:Sp) (dvs:List V) (E:XK) (t:TA):TE:=fun σ H Q=>t σ H fun vs H1=>sp (vs++dvs) H1 Q E
def Binds (K:PySem.W.Frag) (fd:FuncData) (ps:List Str) (ds:List Value):Prop:=
  ∀(s:Shared) (us:List Value),K.In s.heap→(us++ds).length=ps.length→BindsTo s fd ⟨us,[]⟩ (ps.zip (us++ds))
theorem Binds.all {K:PySem.W.Frag} {fd:FuncData} {ps:List Str} (h:∀us:List Value,us.length=ps.length→bindArgs fd ⟨us,[]⟩=pure (ps.zip us)):Binds K fd ps []:=fun s us _ hl=>by
  rw [List.append_nil] at hl ⊢
  exact .of_eq (h us hl)
def oN (CX:sO) (X:Cx) (E:XK):Prop:=∀(pins:List (Addr×Obj)) (σ:St) (H:Hp) (s:Shared) (e:Value) (s':Shared),Inv X pins σ H s→CX X.stack H s E e s'→X.xe e s'
section
variable {X:Cx} {CX:sO} {k:Nat} {f C:Addr} {fd:FuncData} {ps:List Str} {sp:Sp} {dvs:List V} {ds:List Value} {E:XK} {x m:Str} {p pos apos:Pos} {e o:Expr} {es:List Expr} {ta:TE} {t:TA}
theorem xN {pins:List (Addr×Obj)} {σ:St} {H:Hp} {s:Shared} {Q:VK} {us:List Value} {vs:List V} (F:FnOk X.prog X.w X.K X.mg X.base CX k f fd ps sp) (hr:Room k X.A) (hb:Binds X.K fd ps ds) (hd:Vals dvs ds) (hx:oN CX X E)
    (I:Inv X pins σ H s) (r:Vals vs us) (h:sp (vs++dvs) H Q E):wpAny (model X.prog X.w) X.A (call (.ref f) us) (EP X pins σ Q) X.xe s:=by
  have r2:Vals (vs++dvs) (us++ds):=r.append hd
  have hl:(us++ds).length=ps.length:=by rw [←r2.length];exact F.len _ _ _ _ h
  refine wpAny_call (codeAny_mono (F.run X.A X.stack s H ⟨us,[]⟩ (us++ds) (vs++dvs) Q E hr I.env0 (hb s us I.kIn hl) r2 h) fun r s' hq=>?_)
  cases r with
  | error e=>exact hx pins σ H s e s' I hq
  | ok fl=>
    cases fl with
    | ret u=>exact I.after hq
    | next=>exact False.elim hq
    | brk=>exact False.elim hq
    | cont=>exact False.elim hq
theorem vx (F:FnOk X.prog X.w X.K X.mg X.base CX k f fd ps sp) (hr:Room k X.A) (hg:Gl X x) (hm:X.mg x=some (.ref f)) (hk:PySem.W.keepIn X.K (.ref f)=true) (hb:Binds X.K fd ps ds) (hd:Vals dvs ds) (hx:oN CX X E)
    (ha:PA X (e::es) t) (hdb:(x == ("__debug__":Str))=false:=by decide) (he:starEach (e::es) X.env=(false,eval e X.env)::starEach es X.env:=by rfl) (hpl:(backTo pos (starEach es X.env)).any (·.1)=false:=by rfl):
    PE X (.Call (.Name x p) (e::es) [] pos) (kr sp dvs E t):=by
  intro pins s σ H Q I h
  refine wpAny_Call_Name_kw (vn I hg hm ?_ hdb)
  refine PySem.W.callWith_K (h₀:=X.base) I.ok.mod.kin hk (bQ (ha pos pins s σ H _ I h) fun us s1 ⟨vs,H1,I1,r,q⟩=>⟨I1.kIn,?_⟩) he hpl
  exact xN F hr hb hd hx I1 r q
end
structure FnScope (N P:List Str) (sc:Scope):Prop where
  kind:sc.kind= .function
  co:sc.isCoroutine=false
  gen:sc.isGenerator=false
  nd:N.Nodup
  pre:N.take P.length=P
  par:∀x∈P,sc.names.lookup x=some .local∨sc.names.lookup x=some .cell
  nofree:∀y∈sc.names,y.2≠ .free
theorem ku {kindOf:Str→Option NameKind} {x:Str}:∀{binds:List (Str×Value)} {m:Str→Option Value},(∀v,(x,v)∉binds)→bindL kindOf binds m x=m x
  | [],_,_=>rfl
  | (n,v)::r,m,h=>by
    unfold bindL
    rw [ku fun w hw=>h w (List.mem_cons_of_mem _ hw)]
    split
    · have:x≠n:=by rintro rfl;exact h v List.mem_cons_self
      simp [this]
    · rfl
theorem kw {kindOf:Str→Option NameKind} {x:Str}:∀{binds:List (Str×Value)} {m:Str→Option Value},(∀v,(x,v)∉binds)→bindC kindOf binds m x=m x
  | [],_,_=>rfl
  | (n,v)::r,m,h=>by
    unfold bindC
    rw [kw fun w hw=>h w (List.mem_cons_of_mem _ hw)]
    split
    · rfl
    · have:x≠n:=by rintro rfl;exact h v List.mem_cons_self
      simp [this]
theorem kz {kindOf:Str→Option NameKind} {x:Str} {v:Value}:∀{P:List Str} {vs:List Value} {i:Nat} {m:Str→Option Value},P.Nodup→P[i]? =some x→vs[i]? =some v→kindOf x=some .local→
    bindL kindOf (P.zip vs) m x=some v
  | [],_,_,_,_,h,_,_=>by simp at h
  | _::_,[],_,_,_,_,h,_=>by simp at h
  | p::P,w::vs,0,m,nd,h1,h2,hk=>by
    simp at h1 h2;subst h1;subst h2
    show bindL kindOf ((p,w)::P.zip vs) m p=_
    unfold bindL
    rw [ku fun v hv=>(List.nodup_cons.mp nd).1 (List.of_mem_zip hv).1,if_pos hk]
    simp
  | p::P,w::vs,i+1,m,nd,h1,h2,hk=>by
    show bindL kindOf ((p,w)::P.zip vs) m x=_
    unfold bindL
    exact kz (i:=i) (List.nodup_cons.mp nd).2 (by simpa using h1) (by simpa using h2) hk
theorem kA {kindOf:Str→Option NameKind} {x:Str} {v:Value}:∀{P:List Str} {vs:List Value} {i:Nat} {m:Str→Option Value},P.Nodup→P[i]? =some x→vs[i]? =some v→kindOf x≠some .local→
    bindC kindOf (P.zip vs) m x=some v
  | [],_,_,_,_,h,_,_=>by simp at h
  | _::_,[],_,_,_,_,h,_=>by simp at h
  | p::P,w::vs,0,m,nd,h1,h2,hk=>by
    simp at h1 h2;subst h1;subst h2
    show bindC kindOf ((p,w)::P.zip vs) m p=_
    unfold bindC
    rw [kw fun v hv=>(List.nodup_cons.mp nd).1 (List.of_mem_zip hv).1,if_neg hk]
    simp
  | p::P,w::vs,i+1,m,nd,h1,h2,hk=>by
    show bindC kindOf ((p,w)::P.zip vs) m x=_
    unfold bindC
    exact kA (i:=i) (List.nodup_cons.mp nd).2 (by simpa using h1) (by simpa using h2) hk
def start (N:List Str) (vs:List V):St:=vs.map some++List.replicate (N.length - vs.length) none
def lB (CX:sO) (P:Program) (w:World) (K:PySem.W.Frag) (mg:Str→Option Value) (base:Heap) (N:List Str) (qual:Str) (scope:Scope) (f:Addr) (cd:Value) (A:Around) (outer:List Env) (s:Shared) (H:Hp) (E:XK):Cx where
  prog:=P
  w:=w
  K:=K
  mg:=mg
  base:=base
  A:=A.deeper (envOfC qual scope s.heap.objs.size f cd)
  N:=N
  s₀:=s
  H₀:=H
  env:=envOfC qual scope s.heap.objs.size f cd
  outer:=outer
  stack:=envOfC qual scope s.heap.objs.size f cd::outer
  ex:=[]
  calm:=true
  fn:=fun _=>true
  pn:=[]
  xe:=fun e s'=>wpAny (model P w) (A.deeper (envOfC qual scope s.heap.objs.size f cd)) (leaving (envOfC qual scope s.heap.objs.size f cd) e) (fun _ s''=>CX outer H s E e s'') (fun e' s''=>CX outer H s E e' s'') s'
theorem mW {sc:Scope} {n:Nat} {x:Str} (h:sc.names.lookup x=some .cell):∃c,(cellsFrom n sc.names []).lookup x=some c:=by
  have q:=PySem.W.cellsFrom_some sc.names n [] (.inl h)
  exact Option.isSome_iff_exists.mp q
theorem rF {CX:sO} {P:Program} {w:World} {K:PySem.W.Frag} {mg:Str→Option Value} {base:Heap} {N ps:List Str} {qual:Str} {scope:Scope} {f:Addr} {cd:Value} {A:Around} {outer:List Env} {s s1:Shared} {H:Hp} {E:XK} {us:List Value} {vs:List V}
    (S:FnScope N ps scope) (hd:A.handled=none) (e0:Env0 P w K mg base A outer s H) (hl:vs.length=ps.length) (r:Vals vs us)
    (x:InCallC s s.heap.objs.size (bindL (envOfC qual scope s.heap.objs.size f cd).kindOf (ps.zip us) fun _=>none) (cellsFrom (s.heap.objs.size+1) scope.names []) (bindC (envOfC qual scope s.heap.objs.size f cd).kindOf (ps.zip us) fun _=>none) s1):
    Inv (lB CX P w K mg base N qual scope f cd A outer s H E) [] (start N vs) H s1:=by
  have hpl:ps.length≤N.length:=by have:=congrArg List.length S.pre;rw [List.length_take] at this;omega
  obtain ⟨h1,tk,rfl,hk⟩:=x.done
  have noA:∀b:Addr,b∉(lB CX P w K mg base N qual scope f cd A outer s H E).ex:=fun b z=>absurd (show b∈([]:List Addr) from z) (by simp)
  refine ⟨⟨e0.mod,S.kind,rfl,rfl,Nat.le_refl _,fun y z c h1 h2=>?_,fun y hy=>?_,fun y c _ h=>?_,fun _=>hd,Around.frames_deeper e0.frames, .inr ⟨rfl,rfl⟩,fun b z=>absurd z (noA b),e0.bs,e0.bsz,fun b _ _=>noA b,fun b z=>absurd z (noA b),e0.funs,e0.frf,e0.tab⟩,
    rfl,e0.bare,Un.kept hk,⟨_,x.toInCall.ns,fun i y v h1 h2 h3=>?_⟩,fun y c h=>⟨_,x.cell y c h⟩,e0.hok.fresh (Nat.le_refl _),fun y c h=>?_,fun p hp=>absurd (show p∈([]:List (Addr×Obj)) from hp) (by simp),e0.hok.kept hk,?_⟩
  · exact name_of_addr x.apart (PySem.mem_of_lookup h1) (PySem.mem_of_lookup h2)
  · have hy:scope.names.lookup y=some .cell∨scope.names.lookup y=some .free:=hy
    rcases hy with hy | hy
    · exact mW hy
    · exact absurd rfl (S.nofree _ (PySem.mem_of_lookup hy))
  · exact Nat.le_of_lt (x.above y c (PySem.mem_of_lookup h))
  · have hi:i < vs.length:=by
      unfold start at h2
      by_cases hi:i < vs.length
      · exact hi
      · rw [List.getElem?_append_right (by simpa using hi)] at h2
        rw [List.getElem?_replicate] at h2
        split at h2 <;> cases h2
    have ha:vs[i]? =some v:=by
      unfold start at h2
      rw [List.getElem?_append_left (by simpa using hi),List.getElem?_map] at h2
      cases e:vs[i]? with
      | none=>rw [e] at h2;cases h2
      | some a=>rw [e] at h2;cases h2;rfl
    obtain ⟨u,hu,rv⟩:=r.get ha
    have hp:ps[i]? =some y:=by
      rw [←S.pre,List.getElem?_take_of_lt (by omega)];exact h1
    have ndP:ps.Nodup:=by rw [←S.pre];exact S.nd.sublist (List.take_sublist _ _)
    refine ⟨u,rv,?_⟩
    rcases S.par y (List.mem_of_getElem? hp) with k | k
    · exact .inl ⟨k,kz ndP hp hu k⟩
    · obtain ⟨c,e⟩:=mW (n:=s.heap.objs.size+1) k
      refine .inr ⟨.inl k,c,e,?_⟩
      have q:=x.cell y c e
      rw [kA ndP hp hu (by show scope.names.lookup y≠_;rw [k];decide)] at q
      exact q
  · exact e0.hok.fresh (Nat.le_of_lt (x.above y c (PySem.mem_of_lookup h)))
  · unfold start
    show _=N.length
    rw [List.length_append,List.length_map,List.length_replicate]
    omega
theorem zn {CX:sO} {P:Program} {w:World} {K:PySem.W.Frag} {mg:Str→Option Value} {base:Heap} {k:Nat} {f:Addr} {name qual:Str} {params:Arguments} {body:List Stmt} {scope:Scope} {dV kV doc pm cdv ct oc:Value} {an od:Option Addr}
    {osl:Array (Option Value)} {N ps:List Str} {sp:Sp} (lk:K.lookup f=some ⟨oc,od, .func (PySem.W.fnOf name qual params body scope dV kV doc pm an cdv ct),osl⟩) (hcd:PySem.W.codeIn K cdv qual=true) (S:FnScope N ps scope)
    (len:∀vs H Q E,sp vs H Q E→vs.length=ps.length)
    (hbody:∀(A:Around) (outer:List Env) (s:Shared) (H:Hp) (vs:List V) (Q:VK) (E:XK),Room k (A.deeper (envOfC qual scope s.heap.objs.size f cdv))→sp vs H Q E→
      ∃t,PSs (lB CX P w K mg base N qual scope f cdv A outer s H E) body t∧t {nx:=fun _ H'=>Q .non H',rt:=Q} (start N vs) H):
    FnOk P w K mg base CX (k+1) f (PySem.W.fnOf name qual params body scope dV kV doc pm an cdv ct) ps sp:=by
  refine ⟨len,fun A outer s H args us vs Q E hr e0 hb r hsp=>?_⟩
  have hl:=len _ _ _ _ hsp
  have KX:K.In s.heap:=e0.mod.kin.keeps fun b o e=>(e0.bs b o e).1
  have lim:s.heap.NoLimit:=e0.mod.nolimit.keeps fun b o e=>(e0.bs b o e).1
  have hkind:∀y∈ps.zip us,scope.names.lookup y.1=some .local∨(scope.names.lookup y.1=some .cell∧((cellsFrom (s.heap.objs.size+1) scope.names []).lookup y.1).isSome=true):=fun ⟨n,v⟩ hy=>by
    rcases S.par n (List.of_mem_zip hy).1 with q | q
    · exact .inl q
    · exact .inr ⟨q,PySem.W.cellsFrom_some _ _ _ (.inl q)⟩
  refine codeAny_call_function hr.depth (KX _ _ lk) rfl S.co S.gen rfl (PySem.W.codeRec_of KX hcd) (hb _ _ _ _ ?_)
  refine wpAny_newFunctionEnv_cells S.kind hkind fun env he s1 x=>?_
  subst he
  refine ⟨lim.keeps x.toInCall.keep,codeAny_func ?_⟩
  obtain ⟨t,ht,hq⟩:=hbody A outer s H vs Q E (hr.deeper _) hsp
  have I:Inv (lB CX P w K mg base N qual scope f cdv A outer s H E) [] (start N vs) H s1:=rF S hr.hd e0 hl r x
  refine wpAny_mono (ht [] s1 (start N vs) H _ I hq) (fun fl s' hs=>?_) fun e s' hs=>hs
  have fin:∀{σ':St} {H':Hp} {v:V} {u:Value},Inv (lB CX P w K mg base N qual scope f cdv A outer s H E) [] σ' H' s'→RelV v u→Q v H'→CE outer P w H s Q u s':=
    fun {σ' H' v u} J rv q=>⟨v,H',J.os,J.bare,J.base,J.hok,rv,q⟩
  cases fl with
  | ret u=>
    obtain ⟨v,σ',H',J,rv,q⟩:=hs
    exact fin J rv q
  | next=>
    obtain ⟨σ',H',J,q⟩:=hs
    exact fin (v:=V.non) (u:=Value.none) J rfl q
  | brk=>
    obtain ⟨_,_,_,q⟩:=hs
    exact False.elim q
  | cont=>
    obtain ⟨_,_,_,q⟩:=hs
    exact False.elim q
end L2
namespace L2
open PySem PySem.Spec PyProof.Rows
section
variable {X:Cx} {x:Str} {p pos:Pos} {e:Expr} {es:List Expr} {t:TA} {id T:String} {r:List V→Hp→VK→Prop}
def zo (r:List V→Hp→VK→Prop) (t:TA):TE:=fun σ H Q=>t σ H fun vs H1=>r vs H1 Q
theorem f_ (hc:CallR X (.builtin id) r) (hg:Gl X x) (hm:X.mg x=none) (hv:bootBuiltins x=some (.builtin id)) (ha:PA X (e::es) t) (hn:x≠"__name__":=by decide) (hdb:(x == ("__debug__":Str))=false:=by decide)
    (he:starEach (e::es) X.env=(false,eval e X.env)::starEach es X.env:=by rfl) (hpl:(backTo pos (starEach es X.env)).any (·.1)=false:=by rfl):PE X (.Call (.Name x p) (e::es) [] pos) (zo r t):=by
  intro pins s σ H Q I h
  refine wpAny_Call_Name_kw (gW I hg hm hv ?_ hn hdb)
  exact PyProof.Rows.callWith_builtin1 (bQ (ha pos pins s σ H _ I h) fun us s1 ⟨vs,H1,I1,r1,q1⟩=>hc pins s1 σ H1 vs us Q I1 r1 q1) he hpl
theorem kB (hc:CallR X (.type T) r) (hg:Gl X x) (hm:X.mg x=none) (hv:bootBuiltins x=some (.type T)) (ha:PA X (e::es) t) (hn:x≠"__name__":=by decide) (hdb:(x == ("__debug__":Str))=false:=by decide)
    (he:starEach (e::es) X.env=(false,eval e X.env)::starEach es X.env:=by rfl) (hpl:(backTo pos (starEach es X.env)).any (·.1)=false:=by rfl):PE X (.Call (.Name x p) (e::es) [] pos) (zo r t):=by
  intro pins s σ H Q I h
  refine wpAny_Call_Name_kw (gW I hg hm hv ?_ hn hdb)
  exact PyProof.Rows.callWith_type1 (bQ (ha pos pins s σ H _ I h) fun us s1 ⟨vs,H1,I1,r1,q1⟩=>hc pins s1 σ H1 vs us Q I1 r1 q1) he hpl
end
end L2
namespace HT
open PySem PyProof.Rows
section
open PySem.SeqAt
open PySem.AutoSeq1 (wpAny_loadPart')
open PySem.MeetsSeq PySem.MeetsSeq2 PySem.MeetsSeq3
end
section
variable {prog:Program} {w:World} {A:Around} {E:Value→Shared→Prop} {s:Shared}
def jb (n d:Nat):Option Int→Nat
  | none=>d
  | some v=>if v < 0 then (v+(n:Int)).toNat else min v.toNat n
theorem tD (n d:Nat):jb n d none=d:=rfl
theorem p7 (n d k:Nat):jb n d (some (k:Int))=min k n:=by
  show (if (k:Int) < 0 then ((k:Int)+(n:Int)).toNat else min (k:Int).toNat n)=min k n
  rw [if_neg (by omega),Int.toNat_natCast]
end
end HT
namespace L2
open PySem PySem.Spec PyProof.Rows
abbrev TO:=St→Hp→(Option Int→Hp→Prop)→Prop
def PO (X:Cx) (e:Option Expr) (t:TO):Prop:=
  ∀(pins:List (Addr×Obj)) (s:Shared) (σ:St) (H:Hp) (Q:Option Int→Hp→Prop),Inv X pins σ H s→t σ H Q→
    wpAny (model X.prog X.w) X.A (evalPart e X.env) (fun u s'=>∃o H',Inv X pins σ H' s'∧IsPart u o∧Q o H') X.xe s
def vy:TO:=fun _ H Q=>Q none H
def zp (t:TE):TO:=fun σ H Q=>t σ H fun x H1=>∃i,x= .int i∧Q (some i) H1
section
variable {X:Cx} {e:Expr} {te:TE} {lo hi:Option Expr} {tl th:TO} {pos p2:Pos}
theorem vz:PO X none vy:=by
  intro pins s σ H Q I h
  rw [evalPart_none]
  exact wpAny_pure ⟨none,H,I, .none,h⟩
theorem vA (h:PE X e te):PO X (some e) (zp te):=by
  intro pins s σ H Q I hw
  rw [evalPart_some]
  refine bQ (h pins s σ H _ I hw) fun u s1 ⟨x,H1,I1,r1,q1⟩=>?_
  obtain ⟨i,rfl,q⟩:=q1
  obtain ⟨t,rfl⟩:=r1
  exact ⟨some i,H1,I1, .int i t,q⟩
def SlR (X:Cx) (r:V→Option Int→Option Int→Hp→VK→Prop):Prop:=
  ∀(pins:List (Addr×Obj)) (s:Shared) (σ:St) (H:Hp) (x:V) (v vl vu:Value) (lo hi:Option Int) (sl:Addr) (Q:VK),Inv X pins σ H s→RelV x v→s.heap.IsSliceOf sl vl vu .none→IsPart vl lo→IsPart vu hi→r x lo hi H Q→
    ∃T id,typeLookup (.type T) "__getitem__"=pure (some (.builtin id))∧s.TypeIs v T∧wpAny (model X.prog X.w) X.A (getItem v (.ref sl)) (EP X pins σ Q) X.xe s
theorem SlR.or {r r':V→Option Int→Option Int→Hp→VK→Prop} (h:SlR X r) (h':SlR X r'):SlR X (fun x lo hi H Q=>r x lo hi H Q∨r' x lo hi H Q):=by
  intro pins s σ H x v vl vu lo hi sl Q I rx hs pl pu q
  rcases q with q | q
  · exact h pins s σ H x v vl vu lo hi sl Q I rx hs pl pu q
  · exact h' pins s σ H x v vl vu lo hi sl Q I rx hs pl pu q
def Bt (r:V→Option Int→Option Int→Hp→VK→Prop) (te:TE) (tl th:TO):TE:=fun σ H Q=>te σ H fun x H1=>tl σ H1 fun l H2=>th σ H2 fun u H3=>r x l u H3 Q
theorem tE {r:V→Option Int→Option Int→Hp→VK→Prop} (hr:SlR X r) (he:PE X e te) (hl:PO X lo tl) (hu:PO X hi th):PE X (.Subscript e (.Slice lo hi none p2) pos) (Bt r te tl th):=by
  intro pins s σ H Q I h
  refine Subscript_ (bQ (he pins s σ H _ I h) fun v s1 ⟨x,H1,I1,r1,q1⟩=>?_)
  refine wpAny_Slice (bQ (hl pins s1 σ H1 _ I1 q1) fun vl s2 ⟨l,H2,I2,pl,q2⟩=>bQ (hu pins s2 σ H2 _ I2 q2) fun vu s3 ⟨u,H3,I3,pu,q3⟩=>?_)
  rw [evalPart_none]
  refine wpAny_pure ?_
  have I4:Inv X pins σ H3 {s3 with heap:=s3.heap.push {cls:= .type "slice",data:= .fields #[vl,vu, .none]}}:=I3.kept (t':=s3.toks) fun b ob q=>Heap.get?_push_of_some _ q
  obtain ⟨T,id,hT,ht,hg⟩:=hr pins {s3 with heap:=s3.heap.push {cls:= .type "slice",data:= .fields #[vl,vu, .none]}} σ H3 x v vl vu l u s3.heap.objs.size Q I4 r1 (Heap.IsSliceOf.new ..) pl pu q3
  show wpAny (model X.prog X.w) X.A (subscriptTail e (.Slice lo hi none p2) v (.ref s3.heap.objs.size)) (EP X pins σ Q) X.xe {s3 with heap:=s3.heap.push {cls:= .type "slice",data:= .fields #[vl,vu, .none]}}
  exact tail_any (ops:=[.ref s3.heap.objs.size,v]) ht hT hg (by with_unfolding_all rfl)
def rG (xs:List V) (lo hi:Option Int):List V:=(xs.drop (HT.jb xs.length 0 lo)).take (HT.jb xs.length xs.length hi - HT.jb xs.length 0 lo)
theorem mX (xs:List V) (lo hi:Option Int):(rG xs lo hi).length≤xs.length:=by
  unfold rG
  rw [List.length_take,List.length_drop]
  omega
end
end L2
namespace L2
open PySem PySem.Spec PyProof.Rows
def tF (n:Nat) (i:Int):Option Nat:=if 0≤i then (if i < n then some i.toNat else none) else if -(n:Int)≤i then some (i+n).toNat else none
def atI {α:Type} (xs:List α) (i:Int):Option α:=(tF xs.length i).bind fun j=>xs[j]?
theorem p8 {n:Nat} {i:Int} {j:Nat} (h:tF n i=some j):seqIndex? i n=some j∧j < n∧ -(n:Int)≤i∧i < n:=by
  unfold tF at h
  by_cases h0:0≤i
  · rw [if_pos h0] at h
    by_cases h1:i < n
    · rw [if_pos h1] at h
      have e:i.toNat=j:=Option.some.inj h
      exact ⟨by rw [seqIndex_of h0 h1,e],by omega,by omega,h1⟩
    · rw [if_neg h1] at h;cases h
  · rw [if_neg h0] at h
    by_cases h1: -(n:Int)≤i
    · rw [if_pos h1] at h
      have e:(i+n).toNat=j:=Option.some.inj h
      exact ⟨by rw [seqIndex_neg (by omega) h1,e],by omega,h1,by omega⟩
    · rw [if_neg h1] at h;cases h
theorem lC {α:Type} {xs:List α} {i:Int} {v:α} (h:atI xs i=some v):∃j,seqIndex? i xs.length=some j∧xs[j]? =some v∧j < xs.length∧ -(xs.length:Int)≤i∧i < xs.length:=by
  unfold atI at h
  cases e:tF xs.length i with
  | none=>rw [e] at h;cases h
  | some j=>
    rw [e] at h
    obtain ⟨h1,h2,h3,h4⟩:=p8 e
    exact ⟨j,h1,h,h2,h3,h4⟩
def p9 (b:Expr):Prop:=∀o i,subscripted b false o i=operate [o,i] (getItem o i)
def IxR (X:Cx) (r:R2):Prop:=
  ∀(value slice:Expr) (pins:List (Addr×Obj)) (s:Shared) (σ:St) (H:Hp) (x y:V) (v u:Value) (Q:VK),Inv X pins σ H s→RelV x v→RelV y u→r x y H Q→
    subscripted slice false v u=operate [v,u] (getItem v u)→wpAny (model X.prog X.w) X.A (subscriptTail value slice v u) (EP X pins σ Q) X.xe s
def MtR (X:Cx) (id:String) (r:V→List V→Hp→VK→Prop):Prop:=
  ∀(pins:List (Addr×Obj)) (s:Shared) (σ:St) (H:Hp) (x:V) (xs:List V) (v:Value) (us:List Value) (Q:VK),Inv X pins σ H s→RelV x v→Vals xs us→r x xs H Q→
    wpAny (model X.prog X.w) X.A (call (.builtin id) (v::us)) (EP X pins σ Q) X.xe s
section
variable {X:Cx} {a b:Expr} {ta tb:TE} {pos:Pos}
theorem IxR.or {r r':R2} (h:IxR X r) (h':IxR X r'):IxR X (fun x y H Q=>r x y H Q∨r' x y H Q):=by
  intro value slice pins s σ H x y v u Q I rx ry q hs
  rcases q with q | q
  · exact h value slice pins s σ H x y v u Q I rx ry q hs
  · exact h' value slice pins s σ H x y v u Q I rx ry q hs
theorem MtR.or {id:String} {r r':V→List V→Hp→VK→Prop} (h:MtR X id r) (h':MtR X id r'):MtR X id (fun x xs H Q=>r x xs H Q∨r' x xs H Q):=by
  intro pins s σ H x xs v us Q I rx rs q
  rcases q with q | q
  · exact h pins s σ H x xs v us Q I rx rs q
  · exact h' pins s σ H x xs v us Q I rx rs q
theorem kC {r:R2} (hr:IxR X r) (ha:PE X a ta) (hb:PE X b tb) (hs:p9 b):PE X (.Subscript a b pos) (ly r ta tb):=by
  intro pins s σ H Q I h
  exact Subscript_ (xH ha hb I h fun v u s2 x y H2 I2 rx ry q=>hr a b pins s2 σ H2 x y v u Q I2 rx ry q (hs _ _))
def oO (K:PySem.W.Frag):R2:=fun x y H Q=>∃p xs i v,x= .ref p∧y= .int i∧SqL K H p xs∧atI xs i=some v∧Q v H
def zq (K:PySem.W.Frag):R2:=fun x y H Q=>∃p xs i v,x= .ref p∧y= .int i∧SqT K H p xs∧atI xs i=some v∧Q v H
def zr:R2:=fun x y H Q=>∃z i c,x= .str z∧y= .int i∧z.length≤sizeLine∧atI z.cps.toList i=some c∧Q (.str ⟨#[c]⟩) H
theorem ix_list:IxR X (oO X.K):=by
  intro value slice pins s σ H x y v u Q I rx ry h hs
  obtain ⟨p,xs,i,z,rfl,rfl,hq,he,q⟩:=h
  cases rx
  obtain ⟨t,rfl⟩:=ry
  obtain ⟨its,r,pl,hz⟩:=I.list hq
  obtain ⟨j,h1,h2,h3,h4,h5⟩:=lC he
  obtain ⟨w,ew,rw'⟩:=r.get h2
  have hl:=r.length
  have hn:=gX
  have fin:EP X pins σ Q w s:=⟨z,H,I,rw',q⟩
  by_cases h0:0≤i
  · have hj:i.toNat=j:=by
      rw [seqIndex_of h0 h5] at h1
      exact Option.some.inj h1
    exact item_listR pl.isList h0 (by omega) (by rw [hj];simpa using ew) fin hs
  · have hj:(i+(its.toArray.size:Int)).toNat=j:=by
      rw [seqIndex_neg (by omega) h4] at h1
      rw [List.size_toArray,←hl]
      exact Option.some.inj h1
    exact subscriptTail_builtinR (x:=w) pl.isList.typeIs slot_list_getitem.lookup
      (wpAny_getItem_list_neg (Q:=fun r s'=>r=w∧EP X pins σ Q r s') pl.isList (by omega) (by rw [List.size_toArray] <;> omega) (by omega) (by rw [hj];simpa using ew) ⟨rfl,fin⟩) hs
theorem ix_tup:IxR X (zq X.K):=by
  intro value slice pins s σ H x y v u Q I rx ry h hs
  obtain ⟨p,xs,i,z,rfl,rfl,hq,he,q⟩:=h
  cases rx
  obtain ⟨t,rfl⟩:=ry
  obtain ⟨its,r,pl,hz⟩:=I.tuple hq
  obtain ⟨j,h1,h2,h3,h4,h5⟩:=lC he
  obtain ⟨w,ew,rw'⟩:=r.get h2
  have hl:=r.length
  have hn:=gX
  have fin:EP X pins σ Q w s:=⟨z,H,I,rw',q⟩
  exact subscriptTail_builtinR (x:=w) pl.typeIs slot_tuple_getitem.lookup
    (getItem_tuple (j:=j) (Q:=fun r s'=>r=w∧EP X pins σ Q r s') pl (by omega) (by omega) (by rw [List.size_toArray,←hl];exact h1) (by simpa using ew) ⟨rfl,fin⟩) hs
theorem xO:IxR X zr:=by
  intro value slice pins s σ H x y v u Q I rx ry h hs
  obtain ⟨z,i,c,rfl,rfl,hz,he,q⟩:=h
  obtain ⟨t,rfl⟩:=rx
  obtain ⟨t',rfl⟩:=ry
  obtain ⟨j,h1,h2,h3,h4,h5⟩:=lC he
  have hl:z.cps.toList.length=z.length:=by simp [Str.length]
  rw [hl] at h1 h4 h5
  have hn:=gX
  exact tail_any (typeIs_str s z t) slot_str_getitem.lookup (getItem_str (c:=c) (by
    have e1:decide (i < -(2 ^ 63:Int))=false:=decide_eq_false (by omega)
    have e2:decide (i≥2 ^ 63)=false:=decide_eq_false (by omega)
    rw [e1,e2,Bool.or_false]) (by rw [h1];simpa using h2) ⟨.str ⟨#[c]⟩,H,I.tok _,⟨_,rfl⟩,q⟩) hs
def Bg (K:PySem.W.Frag):R2:=fun x y H Q=>oO K x y H Q∨zq K x y H Q∨zr x y H Q
theorem xP:IxR X (Bg X.K):=ix_list.or (ix_tup.or xO)
theorem oP (its:List Value) (n j:Nat) (u:Value):Obj.mapSeq (·.setIfInBounds j u) {cls:= .type "list",data:= .seq its.toArray n}={cls:= .type "list",data:= .seq (its.set j u).toArray n}:=by
  simp [Obj.mapSeq]
theorem Inv.lst {pins:List (Addr×Obj)} {σ:St} {H:Hp} {s:Shared} {p:Addr} {xs:List V} (I:Inv X pins σ H s) (h:H p=some (.lst xs)):
    ∃(its:List Value) (n:Nat),Vals xs its∧s.heap.get? p=some {cls:= .type "list",data:= .seq its.toArray n}∧xs.length≤sizeLine:=by
  obtain ⟨z,its,n,r,e⟩:=I.hok p _ h
  exact ⟨its,n,r,e,z⟩
theorem Inv.lstUpd {pins:List (Addr×Obj)} {σ:St} {H:Hp} {s:Shared} {p:Addr} {xs ys:List V} {its its':List Value} {n n':Nat} {f:Obj→Obj} (I:Inv X pins σ H s) (h:H p=some (.lst xs))
    (ho:s.heap.get? p=some {cls:= .type "list",data:= .seq its.toArray n}) (hf:f {cls:= .type "list",data:= .seq its.toArray n}={cls:= .type "list",data:= .seq its'.toArray n'}) (r:Vals ys its') (hz:ys.length≤sizeLine) (t:Nat):
    Inv X pins σ (upd H p (.lst ys)) {s with heap:=s.heap.update p f,toks:=t}:=by
  have e:(s.heap.update p f).get? p=some {cls:= .type "list",data:= .seq its'.toArray n'}:=by
    rw [Heap.get?_update_self f ho (by rw [hf] <;> rfl),hf]
  refine I.write (x:=p) (e:=p) (by rw [h];trivial) (.inl rfl) (fun b u hb q=>(Heap.get?_update_other _ _ (Ne.symm hb)).trans q) ⟨_,e⟩ ?_
  exact ⟨hz,its',n',r,e⟩
def zt:V→V→V→Hp→(Hp→Prop)→Prop:=fun o i v H Q=>∃p xs k j,o= .ref p∧i= .int k∧H p=some (.lst xs)∧tF xs.length k=some j∧Q (upd H p (.lst (xs.set j v)))
theorem tH:zd X zt:=by
  intro pins s σ H o i v ov iv u Q I ro ri rv h
  obtain ⟨p,xs,k,j,rfl,rfl,hp,hj,q⟩:=h
  cases ro
  obtain ⟨t,rfl⟩:=ri
  obtain ⟨its,n,r,ho,hz⟩:=I.lst hp
  obtain ⟨h1,h2,h3,h4⟩:=p8 hj
  have hl:=r.length
  have hn:=gX
  have I':Inv X pins σ (upd H p (.lst (xs.set j v))) {s with heap:=s.heap.update p (Obj.mapSeq (·.setIfInBounds j u))}:=
    I.lstUpd hp ho (oP its n j u) (r.set rv j) (by rw [List.length_set];exact hz) s.toks
  by_cases h0:0≤k
  · have hk:k.toNat=j:=by
      rw [seqIndex_of h0 h4] at h1
      exact Option.some.inj h1
    exact PySem.W.ki_setAt ho h0 (by omega) (by rw [List.size_toArray,←hl];exact h4) (by rw [hk];exact ⟨_,I',q⟩)
  · have hk:(k+(its.toArray.size:Int)).toNat=j:=by
      rw [seqIndex_neg (by omega) h3] at h1
      rw [List.size_toArray,←hl]
      exact Option.some.inj h1
    exact PySem.W.ki_setBack ho (by omega) (by rw [List.size_toArray,←hl];exact h3) (by omega) (by rw [hk];exact ⟨_,I',q⟩)
theorem lD (lo hi:Option Int) (n:Nat):(sliceBounds lo hi none n).1=((HT.jb n 0 lo:Nat):Int)∧(sliceBounds lo hi none n).2.1=((HT.jb n n hi:Nat):Int)∧(sliceBounds lo hi none n).2.2=1:=by
  refine ⟨?_,?_,rfl⟩
  · cases lo with
    | none=>simp [sliceBounds,HT.jb]
    | some i=>
      simp only [sliceBounds,HT.jb,Option.getD_none,show (1:Int) > 0 by decide,if_true]
      by_cases h:i < 0
      · simp only [h,if_true] <;> omega
      · simp only [h,if_false] <;> omega
  · cases hi with
    | none=>simp [sliceBounds,HT.jb]
    | some i=>
      simp only [sliceBounds,HT.jb,Option.getD_none,show (1:Int) > 0 by decide,if_true]
      by_cases h:i < 0
      · simp only [h,if_true] <;> omega
      · simp only [h,if_false] <;> omega
theorem kc (its:List Value) (lo hi:Option Int):slicePick its.toArray lo hi none=((its.drop (HT.jb its.length 0 lo)).take (HT.jb its.length its.length hi - HT.jb its.length 0 lo)).toArray:=by
  obtain ⟨h1,h2,h3⟩:=lD lo hi its.toArray.size
  unfold slicePick
  rw [h1,h2,h3]
  simp only [sliceRange_one,pick_run,List.size_toArray] <;> rfl
def AI (K:PySem.W.Frag):V→Option Int→Option Int→Hp→VK→Prop:=fun x lo hi H Q=>∃a xs,x= .ref a∧SqL K H a xs∧∀p,H p=none→Q (.ref p) (upd H p (.lst (rG xs lo hi)))
theorem vB:SlR X (AI X.K):=by
  intro pins s σ H x v vl vu lo hi sl Q I rx hs pl pu h
  obtain ⟨a,xs,rfl,hx,q⟩:=h
  cases rx
  obtain ⟨its,r,ht,hz⟩:=I.list hx
  have hlen:=r.length
  refine ⟨"list",_,slot_list_getitem.lookup,ht.isList.typeIs,?_⟩
  refine wpAny_getItem_list_slice ht.isList hs pl pu .none (by simp) ?_ (by rw [List.size_toArray] <;> omega)
  rw [kc,←hlen]
  refine ⟨.ref s.heap.objs.size,_,I.laid (t':=s.toks) (o:= .lst (rG xs lo hi)) (fun b ob q=>Heap.get?_push_of_some _ q) (Nat.le_refl _) ?_,rfl,q _ (I.hok.fresh (Nat.le_refl _))⟩
  exact ⟨Nat.le_trans (mX xs lo hi) hz,_,0,(r.drop (HT.jb xs.length 0 lo)).take (HT.jb xs.length xs.length hi - HT.jb xs.length 0 lo),Heap.get?_push_size _ rfl⟩
def fV:V→Bool
  | .non=>true
  | .bl _=>true
  | .int _=>true
  | .str _=>true
  | _=>false
def vh:V→V→Bool
  | .non, .non=>true
  | .bl a, .bl b=>a == b
  | .bl a, .int b=>(if a then 1 else 0) == b
  | .int a, .bl b=>a == (if b then 1 else 0)
  | .int a, .int b=>a == b
  | .str a, .str b=>a == b
  | _,_=>false
theorem xQ {A:Around} {s:Shared} {y x:V} {u v:Value} (ry:RelV y u) (rx:RelV x v) (fy:fV y=true) (fx:fV x=true):SeqAt.EqAt A s u v (vh y x):=by
  cases y with
  | non=>
    cases ry
    cases x with
    | non=>cases rx;exact SeqAt.EqAt.same _
    | bl b=>cases rx;exact SeqAt.EqAt.none_bool b
    | int b=>obtain ⟨t,rfl⟩:=rx;exact SeqAt.EqAt.none_int b t
    | str b=>obtain ⟨t,rfl⟩:=rx;exact SeqAt.EqAt.none_str b t
    | _=>exact absurd (show false=true from fx) Bool.false_ne_true
  | bl a=>
    cases ry
    cases x with
    | non=>cases rx;exact SeqAt.EqAt.bool_none a
    | bl b=>cases rx;exact SeqAt.EqAt.bool_bool a b
    | int b=>obtain ⟨t,rfl⟩:=rx;exact SeqAt.EqAt.bool_int a b t
    | str b=>obtain ⟨t,rfl⟩:=rx;exact SeqAt.EqAt.bool_str a b t
    | _=>exact absurd (show false=true from fx) Bool.false_ne_true
  | int a=>
    obtain ⟨t',rfl⟩:=ry
    cases x with
    | non=>cases rx;exact SeqAt.EqAt.int_none a t'
    | bl b=>cases rx;exact SeqAt.EqAt.int_bool a t' b
    | int b=>obtain ⟨t,rfl⟩:=rx;exact SeqAt.EqAt.int_int a t' b t
    | str b=>obtain ⟨t,rfl⟩:=rx;exact SeqAt.EqAt.int_str a t' b t
    | _=>exact absurd (show false=true from fx) Bool.false_ne_true
  | str a=>
    obtain ⟨t',rfl⟩:=ry
    cases x with
    | non=>cases rx;exact SeqAt.EqAt.str_none a t'
    | bl b=>cases rx;exact SeqAt.EqAt.str_bool a t' b
    | int b=>obtain ⟨t,rfl⟩:=rx;exact SeqAt.EqAt.str_int a t' b t
    | str b=>obtain ⟨t,rfl⟩:=rx;exact SeqAt.EqAt.str_str a t' b t
    | _=>exact absurd (show false=true from fx) Bool.false_ne_true
  | _=>exact absurd (show false=true from fy) Bool.false_ne_true
def vC (x:V) (u:Value):Bool:=match u with
  | .none=>vh .non x
  | .bool b=>vh (.bl b) x
  | .int i _=>vh (.int i) x
  | .str z _=>vh (.str z) x
  | _=>false
theorem tI {x y:V} {u:Value} (r:RelV y u) (f:fV y=true):vC x u=vh y x:=by
  cases y with
  | non=>cases r;rfl
  | bl b=>cases r;rfl
  | int i=>obtain ⟨t,rfl⟩:=r;rfl
  | str z=>obtain ⟨t,rfl⟩:=r;rfl
  | _=>exact absurd (show false=true from f) Bool.false_ne_true
theorem lE {x:V}:∀{xs:List V} {us:List Value},Vals xs us→xs.all fV=true→us.any (vC x)=xs.any fun y=>vh y x
  | _,_, .nil,_=>rfl
  | y::xs,u::us, .cons r t,f=>by
    rw [List.all_cons,Bool.and_eq_true] at f
    rw [List.any_cons,List.any_cons,tI r f.1,lE t f.2]
theorem jC {A:Around} {s:Shared} {x:V} {v:Value} (rx:RelV x v) (fx:fV x=true):∀{xs:List V} {us:List Value},Vals xs us→xs.all fV=true→∀u∈us,SeqAt.EqAt A s u v (vC x u)
  | _,_, .nil,_=>fun u hu=>by cases hu
  | y::xs,u::us, .cons r t,f=>fun u' hu=>by
    rw [List.all_cons,Bool.and_eq_true] at f
    rcases List.mem_cons.mp hu with rfl | hu
    · rw [tI r f.1];exact xQ r rx f.1 fx
    · exact jC rx fx t f.2 u' hu
def yV (x:V) (xs:List V):Bool:=xs.any fun y=>vh y x
def Bh (K:PySem.W.Frag) (neg:Bool):R2:=fun x y H Q=>∃p xs,y= .ref p∧(SqL K H p xs∨SqT K H p xs)∧fV x=true∧xs.all fV=true∧Q (.bl (if neg then !yV x xs else yV x xs)) H
theorem lG:OpR X (compareOp .NotIn) (Bh X.K true):=by
  intro pins s σ H x y v u Q I rx ry h
  obtain ⟨p,xs,rfl,hq,fx,fs,q⟩:=h
  cases ry
  rcases hq with hq | hq
  · obtain ⟨its,r,pl,hz⟩:=I.list hq
    refine SeqAt.notIn_listAt (vC x) pl.isList (fun w hw=>jC rx fx r fs w (by simpa using hw)) ⟨.bl _,H,I,rfl,?_⟩
    rw [show its.toArray.any (vC x)=its.any (vC x) by simp,lE r fs]
    exact q
  · obtain ⟨its,r,pl,hz⟩:=I.tuple hq
    refine SeqAt.notIn_tupleAt (vC x) pl (fun w hw=>jC rx fx r fs w (by simpa using hw)) ⟨.bl _,H,I,rfl,?_⟩
    rw [show its.toArray.any (vC x)=its.any (vC x) by simp,lE r fs]
    exact q
theorem lH:OpR X (compareOp .NotIn) (fun x y H Q=>∃i j,x= .str i∧y= .str j∧Q (.bl (!(!(Builtin.Str.occurrences j i 0 j.length 1).isEmpty))) H):=by
  intro pins s σ H x y v u Q I rx ry h
  obtain ⟨i,j,rfl,rfl,q⟩:=h
  obtain ⟨t,rfl⟩:=rx
  obtain ⟨t',rfl⟩:=ry
  exact notIn_str ⟨.bl _,H,I,rfl,q⟩
theorem hW:CallR X (.builtin "len") (fun xs H Q=>∃p ys,xs=[.ref p]∧(SqL X.K H p ys∨SqT X.K H p ys)∧Q (.int ys.length) H):=by
  intro pins s σ H xs us Q I r h
  obtain ⟨p,ys,rfl,hq,q⟩:=h
  obtain ⟨u,rfl,rx⟩:=kq r
  cases rx
  have hn:=gX
  rcases hq with hq | hq
  · obtain ⟨its,r',pl,hz⟩:=I.list hq
    have hlen:=r'.length
    exact Calls.call_len_list pl.isList (by simp only [List.size_toArray] <;> omega) ⟨.int ys.length,H,I.tok _,⟨s.toks+1,by rw [List.size_toArray,hlen]⟩,q⟩
  · obtain ⟨its,r',pl,hz⟩:=I.tuple hq
    have hlen:=r'.length
    exact len_tuple pl (by simp only [List.size_toArray] <;> omega) ⟨.int ys.length,H,I.tok _,⟨s.toks+1,by rw [List.size_toArray,hlen]⟩,q⟩
theorem lI:CallR X (.builtin "len") (fun xs H Q=>∃z,xs=[.str z]∧z.length≤sizeLine∧Q (.int z.length) H):=by
  intro pins s σ H xs us Q I r h
  obtain ⟨z,rfl,hz,q⟩:=h
  obtain ⟨u,rfl,t,rfl⟩:=kq r
  have hn:=gX
  exact len_str (by omega) ⟨.int z.length,H,I.tok _,⟨_,rfl⟩,q⟩
theorem CallR.or {f:Value} {r r':List V→Hp→VK→Prop} (h:CallR X f r) (h':CallR X f r'):CallR X f (fun xs H Q=>r xs H Q∨r' xs H Q):=by
  intro pins s σ H xs us Q I rs q
  rcases q with q | q
  · exact h pins s σ H xs us Q I rs q
  · exact h' pins s σ H xs us Q I rs q
theorem lJ:CallR X (.type "list") (fun xs H Q=>∃p ys,xs=[.ref p]∧(SqL X.K H p ys∨SqT X.K H p ys)∧∀l,H l=none→Q (.ref l) (upd H l (.lst ys))):=by
  intro pins s σ H xs us Q I r h
  obtain ⟨p,ys,rfl,hq,q⟩:=h
  obtain ⟨u,rfl,rx⟩:=kq r
  cases rx
  have fin:∀(its:List Value),Vals ys its→ys.length≤sizeLine→∀(h':Heap) (c':Nat),(∀b o',s.heap.get? b=some o'→h'.get? b=some o')→
      h'.get? s.heap.objs.size=some {cls:= .type "list",dict:=none,data:= .seq its.toArray c',slots:=#[]}→EP X pins σ Q (.ref s.heap.objs.size) {s with heap:=h'}:=fun its r' hz h' c' kp e=>
    ⟨.ref s.heap.objs.size,_,I.laid (t':=s.toks) kp (Nat.le_refl _) (show ObjOk X.prog X.w _ h' _ (.lst ys) from ⟨hz,its,c',r',e⟩),rfl,q _ (I.hok.fresh (Nat.le_refl _))⟩
  rcases hq with hq | hq
  · obtain ⟨its,r',pl,hz⟩:=I.list hq
    have hlen:=r'.length
    obtain ⟨o,ho,hc,n,hd⟩:=pl.isList
    exact call_list_seq p (.inl rfl) ho hc hd (fun h' c' kp e=>fin its r' hz h' c' kp e) (by simp only [List.size_toArray] <;> omega)
  · obtain ⟨its,r',pl,hz⟩:=I.tuple hq
    have hlen:=r'.length
    obtain ⟨o,ho,hc,n,hd⟩:=pl
    exact call_list_seq p (.inr rfl) ho hc hd (fun h' c' kp e=>fin its r' hz h' c' kp e) (by simp only [List.size_toArray] <;> omega)
def AJ (K:PySem.W.Frag) (T:String) (x:V) (H:Hp):Prop:=match x with
  | .str _=>T="str"
  | .int _=>T="int"
  | .ref p=>(T="list"∧∃xs,SqL K H p xs)∨(T="tuple"∧∃o,K.lookup p=some o∧o.cls= .type "tuple"∧o.dict=none)∨
      (T="dict"∧((∃kvs,H p=some (.dK kvs))∨∃kvs,H p=some (.dT kvs)))∨(T="set"∧∃S n,H p=some (.set S n))
  | _=>False
theorem tJ {pins:List (Addr×Obj)} {σ:St} {H:Hp} {s:Shared} {T:String} {x:V} {v:Value} (I:Inv X pins σ H s) (r:RelV x v) (ty:AJ X.K T x H):
    s.TypeIs v T∧∀a,v= .ref a→∃ob,s.heap.get? a=some ob∧ob.dict=none:=by
  cases x with
  | str z=>
    obtain ⟨t,rfl⟩:=r
    cases (show T="str" from ty)
    exact ⟨typeIs_str s z t,fun _ e=>nomatch e⟩
  | int i=>
    obtain ⟨t,rfl⟩:=r
    cases (show T="int" from ty)
    exact ⟨typeIs_int s i t,fun _ e=>nomatch e⟩
  | ref p=>
    cases r
    rcases ty with ⟨rfl,xs,hq⟩ | ⟨rfl,o,hk,hc,hd⟩ | ⟨rfl,hk⟩ | ⟨rfl,S,n,hk⟩
    · obtain ⟨its,_,pl,_⟩:=I.list hq
      refine ⟨pl.isList.typeIs,fun a e=>?_⟩
      cases e
      obtain ⟨o,n,e,c,hd,_⟩:=pl
      exact ⟨o,e,hd⟩
    · refine ⟨⟨o,I.kIn p o hk,hc⟩,fun a e=>?_⟩
      cases e
      exact ⟨o,I.kIn _ o hk,hd⟩
    · have z:∃o,s.heap.get? p=some o∧o.ExactDict:=by
        rcases hk with ⟨kvs,hk⟩ | ⟨kvs,hk⟩
        · obtain ⟨_,_,_,_,o,_,_,e,ex,_⟩:=I.hok p _ hk
          exact ⟨o,e,ex⟩
        · obtain ⟨_,_,_,_,o,_,_,e,ex,_⟩:=I.hok p _ hk
          exact ⟨o,e,ex⟩
      obtain ⟨o,e,ex⟩:=z
      refine ⟨⟨o,e,ex.1⟩,fun a e2=>?_⟩
      cases e2
      exact ⟨o,e,ex.2.1⟩
    · obtain ⟨o,_,_,_,e,ex,_⟩:=I.hok p _ hk
      refine ⟨⟨o,e,ex.1⟩,fun a e2=>?_⟩
      cases e2
      exact ⟨o,e,ex.2.1⟩
  | _=>exact False.elim ty
def AK (K:PySem.W.Frag) (T:String) (r:V→List V→Hp→VK→Prop) (to:TE):TE:=fun σ H Q=>to σ H fun x H1=>AJ K T x H1∧r x [] H1 Q
def Bu (K:PySem.W.Frag) (T:String) (r:V→List V→Hp→VK→Prop) (to:TE) (t:TA):TE:=fun σ H Q=>to σ H fun x H1=>AJ K T x H1∧t σ H1 fun xs H2=>r x xs H2 Q
variable {o e:Expr} {es:List Expr} {to:TE} {t:TA} {name:Str} {apos cpos:Pos} {T id:String} {r:V→List V→Hp→VK→Prop}
theorem xR (pa:PlainAttrs T) (slot:Slot T name id) (hty:typeOf (.builtin id)=pure (.type "method_descriptor")) (hm:MtR X id r) (ho:PE X o to)
    (hbase:attributeBase o name X.env (eval o X.env)=eval o X.env:=by rfl) (hline:(apos.endLine == cpos.line)=true:=by rfl):PE X (.Call (.Attribute o name apos) [] [] cpos) (AK X.K T r to):=by
  intro pins s σ H Q I h
  refine wpAny_Call_method0_late hbase hline (bQ (ho pins s σ H _ I h) fun v s1 ⟨x,H1,I1,r1,ty,q1⟩=>?_)
  obtain ⟨h1,h2⟩:=tJ I1 r1 ty
  exact ⟨T,id,pa,slot,hty,h1,h2,Calls.callWith_builtin rfl (PySem.evalArgs_none (hm pins s1 σ H1 x [] v [] Q I1 r1 .nil q1))⟩
theorem zu (pa:PlainAttrs T) (slot:Slot T name id) (hty:typeOf (.builtin id)=pure (.type "method_descriptor")) (hm:MtR X id r) (ho:PE X o to) (ha:PA X (e::es) t)
    (hbase:attributeBase o name X.env (eval o X.env)=eval o X.env:=by rfl)
    (hfew:((backTo cpos (starEach (e::es) X.env)).all (fun x=> !x.1)&&(backToKw cpos (keywordEach [] X.env)).all (fun x=>x.1.isSome)
      &&decide ((e::es).length+([]:List Keyword).length+(if ([]:List Keyword).isEmpty then 0 else 1) < 30))=true:=by rfl)
    (hline:(apos.endLine == cpos.line)=true:=by rfl) (hs:starEach (e::es) X.env=(false,eval e X.env)::starEach es X.env:=by rfl) (hplain:(backTo cpos (starEach es X.env)).any (·.1)=false:=by rfl):
    PE X (.Call (.Attribute o name apos) (e::es) [] cpos) (Bu X.K T r to t):=by
  intro pins s σ H Q I h
  refine wpAny_Call_method_late hbase hfew hline rfl (bQ (ho pins s σ H _ I h) fun v s1 ⟨x,H1,I1,r1,ty,q1⟩=>?_)
  obtain ⟨h1,h2⟩:=tJ I1 r1 ty
  refine ⟨T,id,pa,slot,hty,h1,h2,?_⟩
  have hA:=ha cpos pins s1 σ H1 _ I1 q1
  rw [hs] at hA ⊢
  refine Calls.callWith_builtin (by show (false||(backTo cpos (starEach es X.env)).any (·.1))=false;rw [hplain] <;> rfl) (Calls.evalArgs_plain ?_)
  exact bQ hA fun us s2 ⟨vs,H2,I2,r2,q2⟩=>hm pins s2 σ H2 x vs v us Q I2 r1 r2 q2
end
end L2
namespace L2
open PySem PySem.Spec PyProof.Rows
def Bi (X:Cx) (id:String) (r:V→List V→Hp→VK→Prop):Prop:=
  ∀(pins:List (Addr×Obj)) (s:Shared) (σ:St) (H:Hp) (x:V) (xs:List V) (v:Value) (us:List Value) (Q:VK),Inv X pins σ H s→RelV x v→Vals xs us→r x xs H Q→
    wpAny (model X.prog X.w) X.A (call (.builtin id) (v::us)) (EP X pins σ Q) X.xe s
theorem Vals.one {x:V} {us:List Value} (h:Vals [x] us):∃u,us=[u]∧RelV x u:=by
  cases h with
  | cons r t=>cases t;exact ⟨_,rfl,r⟩
theorem Vals.two {x y:V} {us:List Value} (h:Vals [x,y] us):∃u v,us=[u,v]∧RelV x u∧RelV y v:=by
  cases h with
  | cons r t=>
    obtain ⟨v,rfl,q⟩:=Vals.one t
    exact ⟨_,_,rfl,r,q⟩
theorem Vals.zero:∀{us:List Value},Vals [] us→us=[]
  | _, .nil=>rfl
theorem Vals.dropLast {xs:List V} {us:List Value} (h:Vals xs us):Vals xs.dropLast us.dropLast:=by
  induction h with
  | nil=>exact .nil
  | cons r t ih=>
    cases t with
    | nil=>exact .nil
    | cons q t'=>exact .cons r ih
theorem Vals.eraseIdx:∀{xs:List V} {us:List Value} (i:Nat),Vals xs us→Vals (xs.eraseIdx i) (us.eraseIdx i)
  | _,_,_, .nil=> .nil
  | _,_,0, .cons _ t=>t
  | _,_,i+1, .cons r t=> .cons r (Vals.eraseIdx i t)
theorem Vals.reverse {xs:List V} {us:List Value} (h:Vals xs us):Vals xs.reverse us.reverse:=by
  induction h with
  | nil=>exact .nil
  | cons r t ih=>rw [List.reverse_cons,List.reverse_cons];exact Vals.append ih (.cons r .nil)
theorem Vals.rep {xs:List V} {us:List Value} (h:Vals xs us):∀k:Nat,Vals (List.replicate k xs).flatten (List.replicate k us).flatten
  | 0=> .nil
  | k+1=>by
    rw [List.replicate_succ,List.replicate_succ,List.flatten_cons,List.flatten_cons]
    exact Vals.append h (Vals.rep h k)
theorem oQ {α:Type} (l:List α):l.eraseIdx (l.length - 1)=l.dropLast:=by
  induction l with
  | nil=>rfl
  | cons a r ih=>
    cases r with
    | nil=>rfl
    | cons b r=>
      have e:(a::b::r).length - 1=((b::r).length - 1)+1:=by
        have h1:(a::b::r).length=r.length+2:=rfl
        have h2:(b::r).length=r.length+1:=rfl
        omega
      rw [e,List.eraseIdx_cons_succ,ih]
      all_goals rfl
section
variable {X:Cx} {pins:List (Addr×Obj)} {σ:St} {H:Hp} {s:Shared} {l b:Addr} {xs ys zs:List V}
theorem Inv.lset {its its':List Value} {n:Nat} {f:Array Value→Array Value} {t':Nat} (I:Inv X pins σ H s) (hH:H l=some (.lst xs))
    (e:s.heap.get? l=some {cls:= .type "list",data:= .seq its.toArray n}) (hf:f its.toArray=its'.toArray) (hv:Vals ys its') (hz:ys.length≤sizeLine):
    Inv X pins σ (upd H l (.lst ys)) {s with heap:=s.heap.update l (Obj.mapSeq f),toks:=t'}:=by
  have q:=PySem.IsL.update e f
  rw [hf] at q
  refine I.write (x:=l) (e:=l) (by rw [hH];exact trivial) (.inl rfl) (fun b' u hb hu=>(Heap.get?_update_other s.heap (Obj.mapSeq f) (Ne.symm hb)).trans hu) ⟨_,q⟩ ?_
  exact ⟨hz,its',_,hv,q⟩
theorem Inv.lnew {its:List Value} {t':Nat} (I:Inv X pins σ H s) (hv:Vals ys its) (hz:ys.length≤sizeLine):
    Inv X pins σ (upd H s.heap.objs.size (.lst ys)) {s with heap:=s.heap.push {cls:= .type "list",data:= .seq its.toArray},toks:=t'}:=
  I.laid (fun _ _ q=>Heap.get?_push_of_some _ q) (Nat.le_refl _) ⟨hz,its,0,hv,Heap.get?_push_size _ rfl⟩
theorem Inv.fresh (I:Inv X pins σ H s):H s.heap.objs.size=none:=I.hok.fresh (Nat.le_refl _)
theorem Inv.lstM (I:Inv X pins σ H s) (hH:H l=some (.lst xs)):xs.length≤sizeLine∧∃(its:List Value) (n:Nat),Vals xs its∧xs.length=its.length∧s.heap.get? l=some {cls:= .type "list",data:= .seq its.toArray n}:=by
  obtain ⟨z,its,n,r,e⟩:=I.hok l _ hH
  exact ⟨z,its,n,r,r.length,e⟩
end
section
variable {X:Cx}
def vD:V→List V→Hp→VK→Prop:=fun x vs H Q=>∃l xs y,x= .ref l∧vs=[y]∧H l=some (.lst xs)∧xs.length < sizeLine∧Q .non (upd H l (.lst (xs++[y])))
theorem kD:Bi X "list.append" vD:=by
  intro pins s σ H x vs v us Q I rx rv h
  obtain ⟨l,xs,y,rfl,rfl,hH,hz,q⟩:=h
  cases rx
  obtain ⟨u,rfl,ru⟩:=rv.one
  obtain ⟨z,its,n,r,hl,e⟩:=I.lstM hH
  refine call_meets F.slot_list_append ⟨_,e,rfl⟩ F.entry_list_append (F.args_list_append_2 _ _) (PySem.list_append l its.toArray n u (by rw [List.size_toArray];omega)) ⟨e,?_⟩
  refine ⟨.non,_,I.lset (its':=its++[u]) hH e (by simp) (r.append (.cons ru .nil)) ?_,rfl,q⟩
  rw [List.length_append,List.length_singleton]
  omega
def AL:V→List V→Hp→VK→Prop:=fun x vs H Q=>∃l xs y,x= .ref l∧vs=[]∧H l=some (.lst xs)∧xs[xs.length - 1]? =some y∧Q y (upd H l (.lst xs.dropLast))
theorem xS:Bi X "list.pop" AL:=by
  intro pins s σ H x vs v us Q I rx rv h
  obtain ⟨l,xs,y,rfl,rfl,hH,hy,q⟩:=h
  cases rx
  have hus:=rv.zero
  subst hus
  obtain ⟨z,its,n,r,hl,e⟩:=I.lstM hH
  obtain ⟨u,hu,ru⟩:=r.get hy
  have hy':its.toArray[its.toArray.size - 1]? =some u:=by
    show its.toArray[its.length - 1]? =some u
    rw [←Array.getElem?_toList,←hl]
    exact hu
  refine call_meets F.slot_list_pop ⟨_,e,rfl⟩ F.entry_list_pop (F.args_list_pop_1 _) (MeetsSeq.list_pop_last l its.toArray n u hy' (by rw [List.size_toArray];omega)) ⟨e,?_⟩
  refine ⟨y,_,I.lset (its':=its.dropLast) hH e ?_ r.dropLast ?_,ru,q⟩
  · show its.toArray.eraseIdxIfInBounds (its.toArray.size - 1)=its.dropLast.toArray
    rw [List.size_toArray,List.eraseIdxIfInBounds_toArray,oQ]
  · rw [List.length_dropLast]
    omega
theorem vE {α:Type} (xs:List α) (k:Nat):(List.replicate k xs).flatten.length=k*xs.length:=by
  induction k with
  | zero=>simp
  | succ k ih=>rw [List.replicate_succ,List.flatten_cons,List.length_append,ih,Nat.succ_mul,Nat.add_comm]
end
end L2
namespace Att
open PySem PySem.W PySem.Calls PyProof.Rows
theorem jc {P:Params} {h:Heap}:∀(ns:List Int) (vs:List Value),WellAll P h vs (ns.map WData.int)→IntsAre vs ns:=by
  intro ns
  induction ns with
  | nil=>
    intro vs w
    rw [List.map_nil] at w
    cases w
    exact .nil
  | cons n ns ih=>
    intro vs w
    rw [List.map_cons] at w
    cases w with
    | cons a b=>
      cases a
      exact .cons _ _ (ih _ b)
theorem rH {l:OpenLaw} {n:Nat} (hn:l.most=some n) {P:Params} {h:Heap} {args:List WData} {vals:List Value}
    (hpre:l.row.toRowW.claim.pre args=true) (hwl:WellAll P h vals args):
    ∃a vs ns,vals=[Value.ref a]∧args=[WData.list (ns.map WData.int)]∧h.get? a=some {cls:= .type "list",data:= .seq vs.toArray}∧IntsAre vs ns∧ns.length≤n:=by
  have hsh:WShape.hasAll [] args [.list .int]=true:=(pre_splitW hpre).1
  have hc:l.pre.holds [] {args:=args}=true:=(pre_splitW hpre).2
  obtain ⟨d,r,rfl,h1,h2⟩:=hasAllW_cons hsh
  obtain rfl:=hasAllW_nil h2
  obtain ⟨xs,rfl,h3⟩:=hasW_list h1
  obtain ⟨ns,rfl⟩:=items_int h3
  have hlen:ns.length≤n:=by
    unfold OpenLaw.pre at hc
    have h4:(WTm.not (.lt (.lit (.int (n:Int))) (.len (.arg 0)))).holds [] {args:=[.list (ns.map .int)]}=true:=by
      have h4:=(holds_andW hc).1
      rw [hn] at h4
      exact h4
    have h5:=condW_of h4 (w_not (w_lt w_lit (w_len_list (w_arg rfl))))
    rw [List.length_map] at h5
    refine Nat.le_of_not_lt fun q=>?_
    have q':(n:Int) < ((ns.length:Nat):Int):=by omega
    first
      | (rw [decide_eq_true q'] at h5;exact absurd h5 (by decide))
      | (simp at h5;omega)
  cases hwl with
  | cons w1 w2=>
    cases w2
    cases w1 with
    | list ho hall=>exact ⟨_,_,ns,rfl,rfl,ho,jc ns _ hall,hlen⟩
theorem rJ (l:OpenLaw) (args:List WData):l.row.toRowW.claim.post args (.bool true) args=true:=
  postW_of (r:=l.row.toRowW) (X:=(true == true))
    (show WShape.has [] (.bool true) .bool=true by first | rfl | decide | simp [WShape.has,WShape.arms,WShape.armsAll])
    (show (WTm.eq .res (.lit (.bool true))).value [] {args:=args,res:=some (.bool true),after:=args}=some (.bool (true == true)) from w_eq_bool (w_res rfl) w_lit) rfl
theorem mY {l:OpenLaw} {n:Nat} {q:Program} {loose:List Str} {XP:(Str→Option Value)→Heap→Prop} {YP:World→Heap→Prop} {d:DefRec}
    (hn:l.most=some n) (hdf:d.params.defaults=[])
    (call:∀(w:World) (s₀ s₁:Shared) (mg mb:Str→Option Value) (fa:Addr) (o:Obj) (pm cd doc:Value) (a:Addr) (vs:List Value) (ns:List Int),
      Ground q loose [] XP w s₀ mg mb s₁.heap→YP w s₁.heap→
      s₁.heap.get? fa=some o→o.data= .func (docDef d.name d.params d.body d.scope pm cd doc)→s₁.heap.CodeRec cd d.name→mg d.name=some (.ref fa)→
      s₁.heap.get? a=some {cls:= .type "list",data:= .seq vs.toArray}→IntsAre vs ns→ns.length≤n→s₁.gens=#[]→
      codeAny (model l.prog w) callerA (.call (.ref fa) ⟨[.ref a],[]⟩) (fun r s'=>r= .ok (.ret (.bool true))∧OldK s₁.heap s'.heap∧s'.os=s₁.os∧AllBare s'.gens) s₁):
    WalkO q loose XP YP l.row.toRowW d [] (fun f vs=>PySem.call f vs):=by
  intro w s₀ s₁ mg mb G Y fa o pm cd doc dV kV ho hd hcd hD hmg hg args vals as hpre hlay hrd hwl hlo
  obtain rfl:dV= .none:=Dflts.none hD hdf
  obtain rfl:kV= .none:=Dflts.noKw hD
  obtain ⟨a,vs,ns,rfl,rfl,hobj,hints,hlen⟩:=rH hn hpre hwl
  refine enter_call (codeAny_mono (call w s₀ s₁ mg mb fa o pm cd doc a vs ns G Y ho (fd_plain hd) hcd hmg hobj hints hlen hg) fun r s' hq=>?_)
  obtain ⟨rfl,h2,h3,h4⟩:=hq
  exact ⟨.inl ⟨.bool true, .bool true,[],rfl,fun _=>rfl, .bool true,rJ l _,fun _=>⟨List.Pairwise.nil,fun _ hm=>(nomatch hm)⟩⟩,h2,h3,h4⟩
end Att
namespace L2
open PySem PySem.Spec PyProof.Rows
theorem gy:∀{vs:List Value} {ns:List Int},IntsAre vs ns→Vals (ns.map V.int) vs
  | _,_, .nil=> .nil
  | _,_, .cons n t h=> .cons ⟨t,rfl⟩ (gy h)
theorem ObjOk.tbl0 {P:Program} {w:World} {H:Hp} {h:Heap} {b:Addr} {q:Str} (e:h.get? b=some (PySem.W.tabObj #[])):ObjOk P w H h b (.tbl q):=⟨#[],e,trivial,fun pos cv z=>by cases z⟩
end L2
namespace L2
open PySem PySem.Spec PyProof.Rows
def dU (s:Stmt):Arguments:=match s with
  | .FunctionDef _ a _ _ _ _ _ _ _ _=>a
  | _=>{posonlyargs:=[],args:=[],vararg:=none,kwonlyargs:=[],kw_defaults:=[],kwarg:=none,defaults:=[]}
def cn (s:Stmt):List Stmt:=match s with
  | .FunctionDef _ _ b _ _ _ _ _ _ _=>b
  | _=>[]
def aj (s:Stmt):Scope:=match s with
  | .FunctionDef _ _ _ _ _ _ sc _ _ _=>sc
  | _=>{kind:= .function,names:=[],isGenerator:=false,isCoroutine:=false}
abbrev sP:sO:=fun _ _ _ _ _ _=>False
abbrev E0:XK:=fun _ _ _=>False
theorem zv {X:Cx}:oN sP X E0:=fun _ _ _ _ _ _ _ h=>h.elim
structure Fun (K:PySem.W.Frag) (x qual:Str) (st:Stmt) (f:Addr) (fd:FuncData):Prop where
  ex:∃(oc:Value) (od:Option Addr) (kV doc pm:Value) (an:Option Addr) (cdv ct:Value) (osl:Array (Option Value)),
    fd=PySem.W.fnOf x qual (dU st) (cn st) (aj st) .none kV doc pm an cdv ct∧K.lookup f=some ⟨oc,od, .func fd,osl⟩∧PySem.W.codeIn K cdv qual=true
  kp:PySem.W.keepIn K (.ref f)=true
section
variable {P:Program} {w:World} {K:PySem.W.Frag} {mg:Str→Option Value} {base:Heap}
theorem Fun.ok {x qual:Str} {st:Stmt} {f:Addr} {fd:FuncData} {N ps:List Str} {k:Nat} {sp:Sp} (F:Fun K x qual st f fd) (S:FnScope N ps (aj st)) (len:∀vs H Q E,sp vs H Q E→vs.length=ps.length)
    (hbody:∀(cdv:Value) (A:Around) (outer:List Env) (s:Shared) (H:Hp) (vs:List V) (Q:VK) (E:XK),Room k (A.deeper (envOfC qual (aj st) s.heap.objs.size f cdv))→sp vs H Q E→
      ∃t,PSs (lB sP P w K mg base N qual (aj st) f cdv A outer s H E).nox (cn st) t∧t {nx:=fun _ H'=>Q .non H',rt:=Q} (start N vs) H):FnOk P w K mg base sP (k+1) f fd ps sp:=by
  obtain ⟨oc,od,kV,doc,pm,an,cdv,ct,osl,rfl,lk,hcd⟩:=F.ex
  refine zn lk hcd S len fun A outer s H vs Q E hr hsp=>?_
  obtain ⟨t,h,q⟩:=hbody cdv A outer s H vs Q E hr hsp
  exact ⟨t,h.nox,q⟩
theorem Fun.binds {x qual:Str} {st:Stmt} {f:Addr} {fd:FuncData} {ps:List Str} (F:Fun K x qual st f fd)
    (h:∀(kV doc pm:Value) (an:Option Addr) (cdv ct:Value) (us:List Value),us.length=ps.length→bindArgs (PySem.W.fnOf x qual (dU st) (cn st) (aj st) .none kV doc pm an cdv ct) ⟨us,[]⟩=pure (ps.zip us)):Binds K fd ps []:=by
  obtain ⟨oc,od,kV,doc,pm,an,cdv,ct,osl,rfl,lk,hcd⟩:=F.ex
  exact .all (h kV doc pm an cdv ct)
theorem oR {x qual:Str} {st:Stmt} {f:Addr} {oc:Value} {od an:Option Addr} {osl:Array (Option Value)} {kV doc pm cdv ct:Value} (l:K.lookup f=some ⟨oc,od, .func (PySem.W.fnOf x qual (dU st) (cn st) (aj st) .none kV doc pm an cdv ct),osl⟩)
    (c:PySem.W.codeIn K cdv qual=true) (k:PySem.W.keepIn K (.ref f)=true):Fun K x qual st f (PySem.W.fnOf x qual (dU st) (cn st) (aj st) .none kV doc pm an cdv ct):=⟨⟨oc,od,kV,doc,pm,an,cdv,ct,osl,rfl,l,c⟩,k⟩
end
section
variable {X:Cx}
theorem pv (i:Nat) {x:Str} {pos:Pos} (hN:X.N[i]? =some x:=by rfl) (hv:xt X.env.scope x:=by first | exact Or.inl rfl | exact Or.inr (Or.inl rfl) | exact Or.inr (Or.inr rfl)) (hd:(x == ("__debug__":Str))=false:=by decide)
    (hcd:(x == ("__classdict__":Str))=false:=by decide):PE X (.Name x pos) (cg i):=jw hN hv hd hcd
end
def Same (H H':Hp):Prop:=∀b o,H b=some o→H' b=some o
theorem Same.refl (H:Hp):Same H H:=fun _ _ h=>h
theorem Same.trans {H H1 H2:Hp} (a:Same H H1) (b:Same H1 H2):Same H H2:=fun c o h=>b c o (a c o h)
theorem Same.free {H H':Hp} (e:Same H H') {l:Addr} (h:H' l=Option.none):H l=Option.none:=by
  cases q:H l with
  | none=>rfl
  | some o=>
    rw [e l o q] at h
    cases h
theorem Same.seq {K:PySem.W.Frag} {H H':Hp} {a:Addr} {xs:List V} (e:Same H H') (h:SqL K H a xs):SqL K H' a xs:=by
  rcases h with (h | ⟨o,h⟩) | h
  · exact .inl (.inl (e _ _ h))
  · exact .inl (.inr ⟨o,e _ _ h⟩)
  · exact .inr h
end L2
namespace NH
section
variable {α:Type} [DecidableEq α]
def stp (r:List (α×Int)) (p:α×Int):List (α×Int):=
  match r with
  | []=>if p.2=0 then [] else [p]
  | q::r'=>if q.1=p.1 then (if q.2+p.2=0 then r' else (p.1,q.2+p.2)::r') else (if p.2=0 then q::r' else p::q::r')
def stk (c:List (α×Int)):List (α×Int):=c.foldl stp []
def short (c:List (α×Int)):List (α×Int):=(stk c).reverse
def xT (c:List (α×Int)):List (α×Int):=c.foldr (fun p r=>stp r p) []
def Red:List (α×Int)→Prop
  | []=>True
  | [p]=>p.2≠0
  | p::q::r=>p.2≠0∧p.1≠q.1∧Red (q::r)
theorem Red.tail {p:α×Int} {r:List (α×Int)} (h:Red (p::r)):Red r:=by
  cases r with
  | nil=>trivial
  | cons q r=>exact h.2.2
theorem Red.cons {p:α×Int} {r:List (α×Int)} (h0:p.2≠0) (h1:∀q∈r.head?,p.1≠q.1) (h:Red r):Red (p::r):=by
  cases r with
  | nil=>exact h0
  | cons q r=>exact ⟨h0,h1 q rfl,h⟩
theorem Red.next {p:α×Int} {r:List (α×Int)} (h:Red (p::r)):∀q∈r.head?,p.1≠q.1:=by
  cases r with
  | nil=>intro q hq;cases hq
  | cons q r=>intro q' hq;cases hq;exact h.2.1
theorem vF {r:List (α×Int)} (h:Red r) (p:α×Int):Red (stp r p):=by
  cases r with
  | nil=>
    unfold stp
    by_cases h0:p.2=0
    · simp [h0,Red]
    · simp [h0,Red]
  | cons q r=>
    show Red (if q.1=p.1 then (if q.2+p.2=0 then r else (p.1,q.2+p.2)::r) else (if p.2=0 then q::r else p::q::r))
    by_cases e:q.1=p.1
    · rw [if_pos e]
      by_cases z:q.2+p.2=0
      · rw [if_pos z];exact h.tail
      · rw [if_neg z]
        refine Red.cons z (fun s hs=>?_) h.tail
        rw [←e];exact h.next s hs
    · rw [if_neg e]
      by_cases z:p.2=0
      · rw [if_pos z];exact h
      · rw [if_neg z];exact ⟨z,fun t=>e t.symm,h⟩
theorem kE:∀(c:List (α×Int)) {r:List (α×Int)},Red r→Red (c.foldl stp r)
  | [],_,h=>h
  | p::c,_,h=>kE c (vF h p)
theorem vG (c:List (α×Int)):Red (stk c):=kE c trivial
def contr (c:List (α×Int)):List (α×Int):=c.reverse.map fun p=>(p.1,-p.2)
theorem dv (c:List (α×Int)):(contr c).length=c.length:=by simp [contr]
def sn (w:List (α×Int)) (p:α×Int):List (α×Int):=(stp w.reverse p).reverse
def kF (p x:α×Int):List (α×Int):=if x.1=p.1 then (if x.2+p.2=0 then [] else [(p.1,x.2+p.2)]) else (if p.2=0 then [x] else [p,x])
theorem ga (p x:α×Int) (r:List (α×Int)):stp (x::r) p=kF p x++r:=by
  show (if x.1=p.1 then (if x.2+p.2=0 then r else (p.1,x.2+p.2)::r) else (if p.2=0 then x::r else p::x::r))=kF p x++r
  unfold kF
  by_cases e:x.1=p.1
  · rw [if_pos e,if_pos e];split <;> rfl
  · rw [if_neg e,if_neg e];split <;> rfl
def Am (x p:α×Int):List (α×Int):=(kF p x).reverse
theorem p_ (p x:α×Int) (r:List (α×Int)):sn (r++[x]) p=r++Am x p:=by
  unfold sn Am
  rw [List.reverse_append,List.reverse_singleton,List.singleton_append,ga,List.reverse_append,List.reverse_reverse]
theorem zw (p q:α×Int) (x:α×Int) (hx:x.2≠0):stp (sn [x] q) p=sn (stp [x] p) q:=by
  obtain ⟨n,a⟩:=p
  obtain ⟨k,b⟩:=q
  obtain ⟨m,u⟩:=x
  simp at hx
  by_cases e1:m=n
  · subst e1
    by_cases e2:m=k
    · subst e2
      by_cases z1:u+a=0 <;> by_cases z2:u+b=0
      · simp [stp,sn,z1,z2]
        have:a=b:=by omega
        have ha:a≠0:=by omega
        have hb:b≠0:=by omega
        simp [ha,hb,this]
      · have hb:u+b+a=b:=by omega
        by_cases b0:b=0
        · subst b0;simp [stp,sn,z1,hx]
        · simp [stp,sn,z1,z2,hb,b0]
      · have hb:u+a+b=a:=by omega
        by_cases a0:a=0
        · subst a0;simp [stp,sn,z2,hx]
        · simp [stp,sn,z1,z2,hb,a0]
      · have hb:u+b+a=u+a+b:=by omega
        by_cases z3:u+a+b=0
        · simp [stp,sn,z1,z2,hb,z3]
        · simp [stp,sn,z1,z2,hb,z3]
    · by_cases z1:u+a=0 <;> by_cases z2:b=0 <;> simp [stp,sn,e2,z1,z2]
  · by_cases e2:m=k
    · subst e2
      by_cases z1:u+b=0 <;> by_cases z2:a=0 <;> simp [stp,sn,e1,z1,z2]
    · by_cases z1:a=0 <;> by_cases z2:b=0 <;> simp [stp,sn,e1,e2,z1,z2]
theorem zA (p q:α×Int):stp (sn [] q) p=sn (stp [] p) q:=by
  obtain ⟨n,a⟩:=p
  obtain ⟨k,b⟩:=q
  by_cases z1:a=0 <;> by_cases z2:b=0
  · simp [stp,sn,z1,z2]
  · by_cases e:k=n <;> simp [stp,sn,z1,z2,e]
  · by_cases e:n=k <;> simp [stp,sn,z1,z2,e]
  · by_cases e:k=n
    · subst e
      by_cases z:a+b=0
      · have z':b+a=0:=by omega
        simp [stp,sn,z1,z2,z,z']
      · have z':¬b+a=0:=by omega
        simp [stp,sn,z1,z2,z,z']
        omega
    · have e':¬n=k:=fun t=>e t.symm
      simp [stp,sn,z1,z2,e,e']
theorem comm (p q:α×Int) {w:List (α×Int)} (h:Red w):stp (sn w q) p=sn (stp w p) q:=by
  cases w with
  | nil=>exact zA p q
  | cons x r=>
    rcases List.eq_nil_or_concat r with rfl | ⟨m,y,e⟩
    · exact zw p q x h
    · have e':r=m++[y]:=by rw [e] <;> simp
      subst e'
      have e1:x::(m++[y])=(x::m)++[y]:=rfl
      have e2:sn (x::(m++[y])) q=x::(m++Am y q):=by rw [e1,p_];rfl
      rw [e2,ga,ga,←List.append_assoc,←List.append_assoc,p_]
theorem eB:∀{m:List (α×Int)} {y z:α×Int},Red (m++[y])→z.2≠0→y.1≠z.1→Red (m++[y]++[z])
  | [],y,z,h,h0,h1=>⟨h,h1,h0⟩
  | [x],y,z,h,h0,h1=>⟨h.1,h.2.1,eB (m:=[]) h.2.2 h0 h1⟩
  | x::x'::m,y,z,h,h0,h1=>⟨h.1,h.2.1,eB (m:=x'::m) h.2.2 h0 h1⟩
theorem iX:∀{w:List (α×Int)},Red w→Red w.reverse
  | [],_=>trivial
  | [p],h=>h
  | p::q::r,h=>by
    have ih:=iX (w:=q::r) h.2.2
    rw [List.reverse_cons,List.reverse_cons]
    rw [List.reverse_cons] at ih
    exact eB ih h.1 fun t=>h.2.1 t.symm
theorem rK (c:List (α×Int)):Red (short c):=iX (vG c)
theorem jD (c:List (α×Int)) (p:α×Int):short (c++[p])=sn (short c) p:=by
  unfold short stk sn
  rw [List.foldl_append,List.reverse_reverse]
  rfl
theorem oS (p:α×Int):∀c:List (α×Int),short (p::c)=stp (short c) p:=by
  intro c
  induction hn:c.length generalizing c with
  | zero=>
    have:c=[]:=List.length_eq_zero_iff.mp hn
    subst this
    simp [short,stk,stp]
    by_cases z:p.2=0 <;> simp [z]
  | succ n ih=>
    rcases List.eq_nil_or_concat c with rfl | ⟨m,y,e⟩
    · simp at hn
    · have e':c=m++[y]:=by rw [e] <;> simp
      subst e'
      have hm:m.length=n:=by simp at hn;exact hn
      have e1:p::(m++[y])=(p::m)++[y]:=rfl
      rw [e1,jD,ih m hm,jD,comm p y (rK m)]
theorem gM:∀c:List (α×Int),short c=xT c
  | []=>rfl
  | p::c=>by rw [oS,gM c];rfl
theorem qa (r:List (α×Int)) (p:α×Int):(stp r p).length≤r.length+1:=by
  cases r with
  | nil=>by_cases z:p.2=0 <;> simp [stp,z]
  | cons q r=>rw [ga];unfold kF;split <;> split <;> simp <;> omega
theorem kG:∀(c:List (α×Int)) (r:List (α×Int)),(c.foldl stp r).length≤r.length+c.length
  | [],r=>by simp
  | p::c,r=>by
    have h1:=kG c (stp r p)
    have h2:=qa r p
    simp only [List.foldl_cons,List.length_cons]
    omega
theorem rL (c:List (α×Int)):(short c).length≤c.length:=by
  have:=kG c []
  simpa [short,stk] using this
end
end NH
namespace L2
open PySem PySem.Spec PyProof.Rows
theorem cy {H:Hp} {p:Addr} (h:H p=none) (o:HO):Same H (upd H p o):=fun b u q=>by rw [ao (c7 q h)];exact q
theorem Same.tup {K:PySem.W.Frag} {H H':Hp} {a:Addr} {xs:List V} (e:Same H H') (h:SqT K H a xs):SqT K H' a xs:=by
  rcases h with (h | ⟨o,h⟩) | h
  · exact .inl (.inl (e _ _ h))
  · exact .inl (.inr ⟨o,e _ _ h⟩)
  · exact .inr h
def SameBut (l:Addr) (H H':Hp):Prop:=∀b o,b≠l→H b=some o→H' b=some o
theorem SameBut.upd {H:Hp} {l:Addr} (o:HO):SameBut l H (upd H l o):=fun b u hb q=>by rw [ao hb];exact q
theorem SameBut.trans {H H1 H2:Hp} {l:Addr} (a:SameBut l H H1) (b:SameBut l H1 H2):SameBut l H H2:=fun c o hc q=>b c o hc (a c o hc q)
theorem SameBut.same {H H':Hp} {l:Addr} (a:SameBut l H H') (h:H l=none):Same H H':=fun b o q=>a b o (c7 q h) q
theorem SameBut.tup {K:PySem.W.Frag} {H H':Hp} {l a:Addr} {xs ys:List V} (e:SameBut l H H') (hl:H l=some (.lst ys)) (h:SqT K H a xs):SqT K H' a xs:=by
  rcases h with (h | ⟨o,h⟩) | h
  · exact .inl (.inl (e _ _ (sR h hl (by intro z;cases z)) h))
  · exact .inl (.inr ⟨o,e _ _ (sR h hl (by intro z;cases z)) h⟩)
  · exact .inr h
mutual
inductive DOf (K:PySem.W.Frag) (H:Hp):V→PyData→Prop
  | non:DOf K H .non .none
  | bl (b:Bool):DOf K H (.bl b) (.bool b)
  | int (i:Int):DOf K H (.int i) (.int i)
  | str (x:Str):DOf K H (.str x) (.str x)
  | lst {a:Addr} {xs:List V} {ds:List PyData}:SqL K H a xs→DAll K H xs ds→DOf K H (.ref a) (.list ds)
  | tup {a:Addr} {xs:List V} {ds:List PyData}:SqT K H a xs→DAll K H xs ds→DOf K H (.ref a) (.tuple ds)
inductive DAll (K:PySem.W.Frag) (H:Hp):List V→List PyData→Prop
  | nil:DAll K H [] []
  | cons {x:V} {xs:List V} {d:PyData} {ds:List PyData}:DOf K H x d→DAll K H xs ds→DAll K H (x::xs) (d::ds)
end
section
variable {X:Cx} {pins:List (Addr×Obj)} {σ:St} {H:Hp} {s:Shared}
theorem DOf.reads (I:Inv X pins σ H s) {x:V} {d:PyData} {u:Value} (h:DOf X.K H x d) (r:RelV x u):∃as,Reads s.heap u d as:=DOf.rec (motive_1:=fun x d _=>∀{u:Value},RelV x u→∃as,Reads s.heap u d as) (motive_2:=fun xs ds _=>∀{us:List Value},Vals xs us→∃as,ReadsAll s.heap us ds as)
    (fun r=>by cases r;exact ⟨_,Reads.none⟩) (fun b _ r=>by cases r;exact ⟨_,Reads.bool b⟩) (fun i _ r=>by obtain ⟨t,rfl⟩:=r;exact ⟨_,Reads.int i t⟩) (fun x _ r=>by obtain ⟨t,rfl⟩:=r;exact ⟨_,Reads.str x t⟩)
    (fun hq _ ih _ r=>by
      cases r
      obtain ⟨its,rv,⟨o,n,e,c,_,d⟩,_⟩:=I.list hq
      obtain ⟨as,q⟩:=ih rv
      exact ⟨_,reads_list_at e c d (by simpa using q)⟩)
    (fun hq _ ih _ r=>by
      cases r
      obtain ⟨its,rv,⟨o,e,c,n,d⟩,_⟩:=I.tuple hq
      obtain ⟨as,q⟩:=ih rv
      exact ⟨_,reads_tuple_at e c d (by simpa using q)⟩)
    (fun r=>by cases r;exact ⟨_,ReadsAll.nil⟩)
    (fun _ _ a b _ r=>by
      cases r with
      | cons r rt=>
        obtain ⟨as,q⟩:=a r
        obtain ⟨bs,p⟩:=b rt
        exact ⟨_,ReadsAll.cons q p⟩) h r
end
def zB (K:PySem.W.Frag):R2:=fun x y H Q=>∃d e,DOf K H x d∧DOf K H y e∧SeqAt.shaped d=true∧SeqAt.shaped e=true∧Q (.bl (PyData.eqv d e)) H
def zC (K:PySem.W.Frag):R2:=fun x y H Q=>∃d e,DOf K H x d∧DOf K H y e∧SeqAt.shaped d=true∧SeqAt.shaped e=true∧Q (.bl (!PyData.eqv d e)) H
theorem xU {X:Cx} (hu:X.A.units+64 < cLine):OpR X (compareOp .Eq) (zB X.K):=by
  intro pins s σ H x y v u Q I rx ry h
  obtain ⟨d,e,hd,he,s1,s2,q⟩:=h
  obtain ⟨as,ra⟩:=hd.reads I rx
  obtain ⟨bs,rb⟩:=he.reads I ry
  exact eq_dataH ra rb s1 s2 hu ⟨.bl _,H,I,rfl,q⟩
theorem xV {X:Cx} (hu:X.A.units+64 < cLine):OpR X (compareOp .NotEq) (zC X.K):=by
  intro pins s σ H x y v u Q I rx ry h
  obtain ⟨d,e,hd,he,s1,s2,q⟩:=h
  obtain ⟨as,ra⟩:=hd.reads I rx
  obtain ⟨bs,rb⟩:=he.reads I ry
  exact ne_dataH ra rb s1 s2 hu ⟨.bl _,H,I,rfl,q⟩
def AM (K:PySem.W.Frag) (a:Addr) (xs:List V):It:=
  ⟨fun i H=>SqL K H a xs∧i < xs.length,fun i H x H'=>H'=H∧xs.reverse[i]? =some x,fun i H=>SqL K H a xs∧i=xs.length⟩
theorem tK {P:Program} {w:World} {K:PySem.W.Frag} {tg:Expr} (a it:Addr) (xs:List V):Turn P w K tg (AM K a xs) [it] it (fun i h=>h.IsRevIter it a ((xs.length:Int) - 1 - (i:Int))) where
  mem:=by simp
  obj:=fun i h st b hb=>by
    have e:b=it:=by simpa using hb
    subst e
    obtain ⟨o,e,c,d⟩:=st
    exact ⟨o,e,fun v z=>by rw [d] at z;cases z⟩
  keep:=fun i h h' st k=>st.at fun o e=>k it (by simp) o e
  item:=by
    intro X hP hw hK hc i pins s σ H E I hf st hg
    subst hP hw hK
    obtain ⟨hq,hx⟩:=hg
    obtain ⟨its,rv,p,hz⟩:=I.list hq
    have hlen:=rv.length
    have e0:(xs.length:Int) - 1 - (i:Int)=((xs.length - 1 - i:Nat):Int):=by omega
    have hget:xs.reverse[i]? =xs[xs.length - 1 - i]? :=List.getElem?_reverse hx
    obtain ⟨x,hx'⟩:∃x,xs[xs.length - 1 - i]? =some x:=⟨xs[xs.length - 1 - i]'(by omega),List.getElem?_eq_getElem (by omega)⟩
    obtain ⟨u,hu,ru⟩:=rv.get hx'
    obtain ⟨f0,f1,f2,f3,f4,f5⟩:=hf it (by simp)
    have st1:s.heap.IsRevIter it a ((xs.length - 1 - i:Nat):Int):=by rw [←e0];exact st
    refine wpAny_pyNext_rev_item st1 p.isList (x:=u) (by simpa using hu) fun h' st' sb=>?_
    have I1:Inv X pins σ H {s with heap:=h'}:=I.turned (t':=s.toks) (fun b o hb e=>(sb.2 b hb).trans e) f0 f1 f3 f4 f5
    have e1:((xs.length - 1 - i:Nat):Int) - 1=(xs.length:Int) - 1 - ((i+1:Nat):Int):=by omega
    have st2:h'.IsRevIter it a ((xs.length:Int) - 1 - ((i+1:Nat):Int)):=by rw [←e1];exact st'
    obtain ⟨o,e,c,d⟩:=id st'
    exact ⟨u,rfl,kl (s:={s with heap:=h'}) e c d (by decide) ⟨x,H,I1,ru,⟨rfl,hget.trans hx'⟩,st2,fun b hb=>(hf b hb).1⟩⟩
  done:=by
    intro X hP hw hK hc i pins s σ H E I hf st hg
    subst hP hw hK
    obtain ⟨hq,hx⟩:=hg
    obtain ⟨f0,f1,f2,f3,f4,f5⟩:=hf it (by simp)
    have e0:(xs.length:Int) - 1 - (i:Int)= -1:=by omega
    have st1:s.heap.IsRevIter it a (-1):=by rw [←e0];exact st
    exact wpAny_pyNext_rev_end (I.ok.hd hc) st1 fun h' eb=>⟨rfl,I.turned (t':=s.toks) (fun b o hb e=>eb b o hb e) f0 f1 f3 f4 f5⟩
  self:=fun _ _ _ _ _ st h=>wpAny_pyIter_revIter st h
section
variable {X:Cx} {tg:Expr}
def AN (K:PySem.W.Frag) (tl:TA):TI:=fun σ H R=>tl σ H fun vs H1=>∃a xs,vs=[.ref a]∧SqL K H1 a xs∧R (AM K a xs) H1
theorem xW {l:Expr} {tl:TA} {p pos:Pos} (hg:Gl X "reversed") (hm:X.mg "reversed"=none) (ha:PA X [l] tl) (hs:starEach [l] X.env=[(false,eval l X.env)]:=by rfl):PI X tg (.Call (.Name "reversed" p) [l] [] pos) (AN X.K tl):=by
  intro pins s σ H R I h
  refine Call_ (gW I hg hm boot_reversed (PyProof.Rows.callWith_type1 (bQ (ha pos pins s σ H _ I h) fun us s1 ⟨vs,H1,I1,r1,q1⟩=>?_) hs rfl))
  obtain ⟨a,xs,e,hq,q⟩:=q1
  subst e
  cases r1 with
  | cons r rr=>
    cases rr
    cases r
    obtain ⟨its,rv,p,hz⟩:=I1.list hq
    have hlen:=rv.length
    refine call_reversed_list p.isList ?_
    have hit:(s1.heap.push (revObj a (((its.toArray).size:Int) - 1))).IsRevIter s1.heap.objs.size a ((xs.length:Int) - 1 - ((0:Nat):Int)):=by
      refine ⟨_,Heap.get?_push_size _ rfl,rfl,?_⟩
      have e1:((its.toArray.size:Nat):Int) - 1=(xs.length:Int) - 1 - ((0:Nat):Int):=by rw [List.size_toArray];omega
      show Data.fields #[.ref a,rawInt ((its.toArray.size:Int) - 1)]=_
      rw [e1]
    have I2:Inv X pins σ H1 {s1 with heap:=s1.heap.push (revObj a (((its.toArray).size:Int) - 1))}:=I1.kept (t':=s1.toks) fun b o e=>Heap.get?_push_of_some _ e
    refine wpAny_pyIter_revIter hit ?_
    refine ⟨s1.heap.objs.size,[s1.heap.objs.size],_,_,H1,rfl,I2,tK a _ xs,hit,fun b hb=>?_,q⟩
    have e:b=s1.heap.objs.size:=by simpa using hb
    subst e
    have f:=I1.fpOk (H':=H1) (Nat.le_refl _) (I1.hok.fresh (Nat.le_refl _))
    exact f
end
end L2
namespace L2
open PySem PySem.Spec PyProof.Rows
section
variable {prog:Program} {w:World} {A:Around} {R:Result→Shared→Prop} {s:Shared}
theorem lK {elt target iter:Expr} {ifs:List Expr} {scope:Scope} {pos:Pos} {it acc:Value} {env:Env} (I:Nat→Shared→Prop)
    (turn:∀n s,I n s→wpAny (model prog w) A (pyNext it) (fun r s₁=>match r with
      | none=>R (.ok .next) s₁
      | some v=>wpAny (model prog w) A (letOwnedTupleGo target it v) (fun _ s₁'=>wpAny (model prog w) A (assign target env v) (fun _ s₂=>
          wpAny (model prog w) A (forIn ifs true fun c r=>if r=true then do let ok ←isTrue c env (eval c env);pure (ForInStep.yield ok) else pure (ForInStep.yield r)) (fun ok s₃=>
            if ok=true then wpAny (model prog w) A (eval elt env) (fun x s₄=>
              wpAny (model prog w) A (call (.builtin "list.append") [acc,x]) (fun _ s₅=>∃m,m < n∧I m s₅) (fun _ _=>False) s₄) (fun _ _=>False) s₃
            else ∃m,m < n∧I m s₃) (fun _ _=>False) s₂) (fun _ _=>False) s₁') (fun _ _=>False) s₁) (fun _ _=>False) s)
    (n:Nat) (h:I n s):
    codeAny (model prog w) A (.compLoop (.ListComp elt [⟨target,iter,ifs,0⟩] scope pos) 0 it acc env) R s:=by
  refine codeAny_loop rfl I (fun n s hI=>?_) n h
  show wpAny _ A ((compTurn (.ListComp elt [⟨target,iter,ifs,0⟩] scope pos) 0 it acc env).onRaise (fun x=>do noteFrame x env;theTreesLotGoes x)) _ _ s
  refine wpAny_noted ?_
  rw [compTurn_list]
  refine wpAny_bind (wpAny_standAt (wpAny_bind (wpAny_mono (turn n s hI) (fun r s₁ h₁=>?_) fun _ _ h'=>h'.elim)))
  cases r with
  | none=>exact wpAny_pure h₁
  | some v=>
    refine wpAny_bind (wpAny_mono h₁ (fun _ s₁' h₁'=>?_) fun _ _ h'=>h'.elim)
    refine wpAny_bind (wpAny_mono h₁' (fun _ s₂ h₂=>wpAny_bind (wpAny_mono h₂ (fun ok s₃ h₃=>?_) fun _ _ h'=>h'.elim)) fun _ _ h'=>h'.elim)
    cases ok with
    | false=>exact wpAny_pure ⟨rfl,h₃⟩
    | true=>
      exact wpAny_bind (wpAny_bind (wpAny_mono h₃ (fun x s₄ h₄=>wpAny_bind (wpAny_mono h₄ (fun _ s₅ h₅=>wpAny_pure (wpAny_pure ⟨rfl,h₅⟩)) fun _ _ h'=>h'.elim)) fun _ _ h'=>h'.elim))
end
def Cx.comp (X:Cx) (sc:Scope) (cl:List (Str×Addr)) (N:List Str) (C:Addr) (s₀:Shared) (H₀:Hp) (fp:List Addr):Cx:=
  ⟨X.prog,X.w,X.K,X.mg,X.base,X.A,N,s₀,H₀,⟨sc,C,X.env.globals,cl,X.env.qual,none,X.env.code,X.env.frame,X.env.builtins⟩,X.stack,X.stack,fp,fun _=>false,X.calm,[],fun _ _=>False⟩
def zD (X:Cx) (ifs:List Expr) (t:TT):Prop:=
  ∀(pins:List (Addr×Obj)) (s:Shared) (σ:St) (H:Hp) (Q:Bool→Hp→Prop),Inv X pins σ H s→t σ H Q→
    wpAny (model X.prog X.w) X.A (forIn ifs true fun c r=>if r=true then do let ok ←isTrue c X.env (eval c X.env);pure (ForInStep.yield ok) else pure (ForInStep.yield r)) (TP X pins σ Q) X.xe s
def rM:TT:=fun _ H Q=>Q true H
theorem lL {X:Cx}:zD X [] rM:=fun _ _ _ H _ I h=>wpAny_tests_nil ⟨H,I,h⟩
theorem vH {X:Cx} {c:Expr} {t:TT} (h:PT X c t):zD X [c] t:=fun pins s σ H Q I q=>wpAny_tests_one (h pins s σ H Q I q)
def slots (js:List (Option Nat)) (σ:St):St:=js.map fun j=>j.bind fun j=>(σ[j]?).join
def jE (js:List (Option Nat)) (wi:TI) (g:TG) (tt:TT) (te:TE):TE:=fun σ H Q=>wi σ H fun J H1=>∀l,H1 l=none→∃W:Nat→Nat→St→Hp→Prop,(∃m,W 0 m (slots js σ) (upd H1 l (.lst [])))∧
  ∀i m σ' H',W i m σ' H'→(J.stop i H'∧Q (.ref l) H')∨(J.go i H'∧∃N:St→Hp→Prop,(∀σ' H',N σ' H'→∃m',m' < m∧W (i+1) m' σ' H')∧∀x H2,J.yld i H' x H2→g x σ' H2 fun σ3 H3=>tt σ3 H3 fun b H4=>
    if b=true then te σ3 H4 fun y H5=>∃ys,H5 l=some (.lst ys)∧ys.length < sizeLine∧N σ3 (upd H5 l (.lst (ys++[y]))) else N σ3 H4)
section
variable {X:Cx} {elt target iter:Expr} {ifs:List Expr} {scope sc:Scope} {cl:List (Str×Addr)} {N:List Str} {pos:Pos} {wi:TI} {g:TG} {tt:TT} {te:TE} {js:List (Option Nat)}
structure CompOk (X:Cx) (scope sc:Scope) (cl:List (Str×Addr)) (N:List Str) (js:List (Option Nat)):Prop where
  clos:closureFor scope X.env=pure cl
  rel:relabel scope X.env=sc
  nocell:∀y∈scope.names,y.2≠ .cell
  kind:scope.kind= .function
  names:∀y∈scope.names,y.2= .local→scope.names.lookup y.1=some .local
  same:∀x c,cl.lookup x=some c→X.env.cells.lookup x=some c
  has:∀x,(sc.names.lookup x=some .cell∨sc.names.lookup x=some .free)→∃c,cl.lookup x=some c
  len:js.length=N.length
  from_:∀(i j:Nat),js[i]? =some (some j)→∃x,N[i]? =some x∧X.N[j]? =some x∧(sc.names.lookup x=some .cell∨sc.names.lookup x=some .free)∧(X.env.kindOf x=some .cell∨X.env.kindOf x=some .free)
theorem mZ {use:Option (Value→Sem Unit)} {Qv:Value→Shared→Prop} (K:CompOk X scope sc cl N js) (hc:X.calm=true) (hi:PI X target iter wi)
    (hgg:∀C s₀ H₀ fp,PG (X.comp sc cl N C s₀ H₀ fp) target g) (htt:∀C s₀ H₀ fp,zD (X.comp sc cl N C s₀ H₀ fp) ifs tt) (hee:∀C s₀ H₀ fp,PE (X.comp sc cl N C s₀ H₀ fp) elt te)
    (hs:∀x,foldedSetIterable iter X.env x=pure x) (pins:List (Addr×Obj)) (s:Shared) (σ:St) (H:Hp) (Q:VK) (I:Inv X pins σ H s) (h:jE js wi g tt te σ H Q)
    (hend:∀(D C:Addr) (H4:Hp) (s5:Shared) (m:Str→Option Value),Inv X pins σ H4 s5→s5.heap.Ns C m→H4 C=none→C≠X.env.locals→C∉X.fs→X.s₀.heap.objs.size≤C→(∀x c,X.env.cells.lookup x=some c→c≠C)→(∀p∈X.pn++pins,p.1≠C)→Q (.ref D) H4→
      compPost (model X.prog X.w) X.A X.xe use Qv (.ref D) C (.ok .next) s5):
    wpAny (model X.prog X.w) X.A (comprehension (.ListComp elt [⟨target,iter,ifs,0⟩] scope pos) scope X.env (firstIterPos [⟨target,iter,ifs,0⟩] pos) (newList []) false (firstIter [⟨target,iter,ifs,0⟩] X.env) use) Qv X.xe s:=by
  refine wpAny_comprehension_free (use:=use) rfl hs K.clos K.kind K.names (bQ (hi pins s σ H _ I h) fun v s1 h1=>bQ h1 fun itv s2 h2=>?_)
  obtain ⟨it,fp,tn,J,H2,e,I2,T,st2,f2,R⟩:=h2
  subst e
  refine wpAny_newObj_type (wpAny_newFunctionEnv K.nocell (by intro y hy;simp at hy) (fun h₁ hns₁ hsb₁=>?_) K.kind)
  dsimp only at hns₁ hsb₁ ⊢
  have I3:Inv X pins σ (upd H2 s2.heap.objs.size (.lst [])) {s2 with heap:=s2.heap.push {cls:= .type "list",dict:=none,data:= .seq ([]:List Value).toArray}}:=
    I2.lnew (t':=s2.toks) (its:=[]) .nil (Nat.zero_le _)
  obtain ⟨W,⟨m0,w0⟩,turn⟩:=R s2.heap.objs.size (I2.hok.fresh (Nat.le_refl _))
  generalize hP:s2.heap.push {cls:= .type "list",dict:=none,data:= .seq ([]:List Value).toArray}=h3 at hns₁ hsb₁ I3 ⊢
  generalize hD:s2.heap.objs.size=D at w0 turn I3 ⊢
  have hsz3:h3.objs.size=D+1:=by rw [←hP,Heap.size_push,hD]
  have old3:∀b o,s2.heap.get? b=some o→h3.get? b=some o:=fun b o e=>by rw [←hP];exact Heap.get?_push_of_some _ e
  have old:∀b o,h3.get? b=some o→h₁.get? b=some o:=fun b o e=>hsb₁.extBut b o (Nat.ne_of_lt (Heap.lt_size e)) (Heap.get?_push_of_some _ e)
  have fpD:∀b∈fp,b < D:=fun b hb=>by
    obtain ⟨o,e,_⟩:=T.obj _ _ st2 b hb
    rw [←hD];exact Heap.lt_size e
  have frD:∀b∈fp,(upd H2 D (.lst [])) b=none:=fun b hb=>by rw [ao (Nat.ne_of_lt (fpD b hb))];exact (f2 b hb).1
  have f3:∀b∈fp,kb X pins (upd H2 D (.lst [])) b:=fun b hb=>⟨frD b hb,(f2 b hb).2⟩
  have Hfresh:∀a,h3.objs.size≤a→(upd H2 D (.lst [])) a=none:=fun a ha=>I3.hok.fresh ha
  have cellC:∀x c,X.env.cells.lookup x=some c→c < h3.objs.size:=fun x c e=>by
    obtain ⟨v,q⟩:=I3.cell x c e
    exact q.lt
  have YOk:(X.comp sc cl N h3.objs.size {s2 with heap:=h3} (upd H2 D (.lst [])) fp).Ok:=by
    refine ⟨I3.ok.mod,?_,I3.ok.glob,I3.ok.blt,Nat.le_refl _,fun x y c e1 e2=>I3.ok.inj x y c (K.same x c e1) (K.same y c e2),fun x hx=>K.has x hx,fun x c hf _=>absurd hf (by intro z;cases z),I3.ok.hd,I3.ok.frames, .inl rfl,fun b hb=>⟨?_,fun x c e=>(f2 b hb).2.2.2.2.1 x c (K.same x c e)⟩,
      I3.bs,Nat.le_trans I3.ok.bsz I3.sz,fun b o e hb=>?_,fun b hb hm=>?_,I3.stack,I3.stkFree,I3.tab⟩
    · rw [←K.rel];exact K.kind
    · exact Nat.ne_of_lt (by rw [hsz3];exact Nat.lt_succ_of_lt (fpD b hb))
    · rcases (f2 b hb).2.2.2.1 with z | z
      · exact I3.ok.noex b o e z
      · exact absurd (Nat.lt_of_lt_of_le (Heap.lt_size (I3.ok.bs b o e).1) z) (Nat.lt_irrefl _)
    · rcases List.mem_cons.mp (I3.stkSub b hm) with z | z
      · exact (f2 b hb).2.1 z
      · exact (f2 b hb).2.2.1 z
  have IY:Inv (X.comp sc cl N h3.objs.size {s2 with heap:=h3} (upd H2 D (.lst [])) fp) [] (slots js σ) (upd H2 D (.lst [])) {s2 with heap:=h₁,toks:=s2.toks+([]:List (Str×Value)).length}:=by
    refine ⟨YOk,rfl,I3.bare,Un.kept old,⟨_,hns₁,fun i x v e1 e2 e3=>?_⟩,fun x c e=>?_,Hfresh _ (Nat.le_refl _),fun x c e=>I3.freeC x c (K.same x c e),fun p hp=>absurd (show p∈([]:List (Addr×Obj)) from hp) (by simp),I3.hok.kept old,?_⟩
    · unfold slots at e2
      rw [List.getElem?_map] at e2
      cases ej:js[i]? with
      | none=>rw [ej] at e2;cases e2
      | some jo=>
        rw [ej] at e2
        cases jo with
        | none=>cases e2
        | some j=>
          obtain ⟨y,n1,n2,k1,k2⟩:=K.from_ i j ej
          have exy:y=x:=Option.some.inj (n1.symm.trans e1)
          subst exy
          have e2':(σ[j]?).join=some v:=Option.some.inj e2
          have e4:σ[j]? =some (some v):=by
            cases es:σ[j]? with
            | none=>rw [es] at e2';cases e2'
            | some w=>rw [es] at e2';exact congrArg some e2'
          obtain ⟨m,_,hl⟩:=I3.loc
          obtain ⟨u,ru,lk⟩:=hl j y v n2 e4 (by
            rcases k2 with z | z
            · exact .inr (.inl z)
            · exact .inr (.inr z))
          refine ⟨u,ru, .inr ⟨k1,?_⟩⟩
          obtain ⟨c,hcl⟩:=K.has y k1
          refine ⟨c,hcl,?_⟩
          rcases lk with ⟨z,_⟩ | ⟨_,c',e5,ic⟩
          · rcases k2 with q | q
            · rw [q] at z;cases z
            · rw [q] at z;cases z
          · have:c'=c:=Option.some.inj (e5.symm.trans (K.same y c hcl))
            subst this
            obtain ⟨o,ho,hd⟩:=ic
            exact ⟨o,old _ _ ho,hd⟩
    · obtain ⟨v,o,ho,hd⟩:=I3.cell x c (K.same x c e)
      exact ⟨v,o,old _ _ ho,hd⟩
    · unfold slots;rw [List.length_map];exact K.len
  have rf:∀s₃:Shared,s₃={s2 with heap:=h₁,toks:=s2.toks+([]:List (Str×Value)).length}→
      codeAny (model X.prog X.w) X.A (.compLoop (.ListComp elt [⟨target,iter,ifs,0⟩] scope pos) 0 (.ref it) (.ref D) (X.comp sc cl N h3.objs.size {s2 with heap:=h3} (upd H2 D (.lst [])) fp).env)
        (compPost (model X.prog X.w) X.A X.xe use Qv (.ref D) h3.objs.size) s₃:=by
    rintro s₃ rfl
    refine lK (fun n s'=>∃i σ' H',Inv (X.comp sc cl N h3.objs.size {s2 with heap:=h3} (upd H2 D (.lst [])) fp) [] σ' H' s'∧tn i s'.heap∧(∀b∈fp,H' b=none)∧W i n σ' H') ?_ m0
      ⟨0,_,_,IY,T.keep _ _ _ st2 (fun b hb o e=>old b o (old3 b o e)),frD,w0⟩
    rintro n s4 ⟨i,σ4,H4,I4,st4,fr4,w4⟩
    have ff:∀{H':Hp},(∀b∈fp,H' b=none)→∀b∈fp,kb (X.comp sc cl N h3.objs.size {s2 with heap:=h3} (upd H2 D (.lst [])) fp) [] H' b:=fun hn b hb=>
      ⟨hn b hb,(YOk.exf b hb).1,YOk.exfs b hb, .inl hb,(YOk.exf b hb).2,fun p hp=>absurd (show p∈([]:List (Addr×Obj)) from hp) (by simp)⟩
    have hg:=hgg h3.objs.size {s2 with heap:=h3} (upd H2 D (.lst [])) fp
    have ht:=htt h3.objs.size {s2 with heap:=h3} (upd H2 D (.lst [])) fp
    have he:=hee h3.objs.size {s2 with heap:=h3} (upd H2 D (.lst [])) fp
    rcases turn i n σ4 H4 w4 with ⟨stop,qn⟩ | ⟨go,Nx,hN,step⟩
    · refine bQ (T.done (X.comp sc cl N h3.objs.size {s2 with heap:=h3} (upd H2 D (.lst [])) fp) rfl rfl rfl hc i [] s4 σ4 H4 _ I4 (ff fr4) st4 stop) fun r s5 ⟨hr,I5⟩=>?_
      subst hr
      obtain ⟨m,hn,_⟩:=I5.loc
      have IX:Inv X pins σ H4 s5:=I3.call' (ch:=fp) I5.os I5.base I5.hok I5.bare fun b hb=>⟨(f3 b hb).2.2.2.1,(f3 b hb).2.1,(f3 b hb).2.2.2.2.1,(f3 b hb).2.2.2.2.2⟩
      exact hend D h3.objs.size H4 s5 m IX hn I5.free (Ne.symm (Nat.ne_of_lt I3.lt)) (I3.nofs (Nat.le_refl _)) I3.sz (fun x c e=>Nat.ne_of_lt (cellC x c e)) (fun p hp=>Nat.ne_of_lt (Heap.lt_size (I3.pin p hp).1)) qn
    · refine bQ (T.item (X.comp sc cl N h3.objs.size {s2 with heap:=h3} (upd H2 D (.lst [])) fp) rfl rfl rfl hc i [] s4 σ4 H4 _ I4 (ff fr4) st4 go) fun r s5 ⟨u,hr,h5⟩=>?_
      subst hr
      refine bQ h5 fun _ s6 ⟨x,H6,I6,r6,y6,st6,fr6⟩=>?_
      have I6':=I6.pinned (ff fr6) (T.obj _ _ st6)
      have back:∀{σ7:St} {H7:Hp} {s7:Shared},Inv (X.comp sc cl N h3.objs.size {s2 with heap:=h3} (upd H2 D (.lst [])) fp) ([]++jy fp s6.heap) σ7 H7 s7→
          Inv (X.comp sc cl N h3.objs.size {s2 with heap:=h3} (upd H2 D (.lst [])) fp) [] σ7 H7 s7∧tn (i+1) s7.heap∧∀b∈fp,H7 b=none:=fun {σ7 H7 s7} I7=>
        ⟨I7.unpinned,T.keep _ _ _ st6 fun b hb o e=>(I7.pin (b,o) (List.mem_append_right _ (List.mem_append_right _ (fH hb e)))).1,fun b hb=>by
          obtain ⟨o,e,d⟩:=T.obj _ _ st6 b hb
          exact (I7.pin (b,o) (List.mem_append_right _ (List.mem_append_right _ (fH hb e)))).2.1⟩
      refine bQ (hg _ s6 σ4 H6 x u _ I6' r6 (step x H6 y6)) fun _ s7 ⟨σ7,H7,I7,q7⟩=>?_
      refine bQ (ht _ s7 σ7 H7 _ I7 q7) fun b s8 ⟨H8,I8,q8⟩=>?_
      cases b with
      | false=>
        obtain ⟨m',hm,w8⟩:=hN σ7 H8 q8
        obtain ⟨J1,J2,J3⟩:=back I8
        exact ⟨m',hm,i+1,σ7,H8,J1,J2,J3,w8⟩
      | true=>
        refine bQ (he _ s8 σ7 H8 _ I8 q8) fun yv s9 ⟨y,H9,I9,r9,ys,hl,hz,n9⟩=>?_
        obtain ⟨m',hm,w9⟩:=hN _ _ n9
        refine bQ (kD _ s9 σ7 H9 (.ref D) [y] (.ref D) [yv] (fun v H'=>v= .non∧H'=upd H9 D (.lst (ys++[y]))) I9 rfl (.cons r9 .nil) ⟨D,ys,y,rfl,rfl,hl,hz,rfl,rfl⟩) fun _ sA ⟨_,HA,IA,_,_,eA⟩=>?_
        subst eA
        obtain ⟨J1,J2,J3⟩:=back IA
        exact ⟨m',hm,i+1,σ7,_,J1,J2,J3,w9⟩
  rw [K.rel]
  exact codeAny_compStart_list (rf _ rfl) (T.self _ 0 _ _ _ (T.keep _ _ _ st2 (fun b hb o e=>old b o (old3 b o e))) (rf _ rfl))
theorem lM (K:CompOk X scope sc cl N js) (hc:X.calm=true) (hi:PI X target iter wi)
    (hgg:∀C s₀ H₀ fp,PG (X.comp sc cl N C s₀ H₀ fp) target g) (htt:∀C s₀ H₀ fp,zD (X.comp sc cl N C s₀ H₀ fp) ifs tt) (hee:∀C s₀ H₀ fp,PE (X.comp sc cl N C s₀ H₀ fp) elt te)
    (hs:∀x,foldedSetIterable iter X.env x=pure x:=by intro _;rfl):PE X (.ListComp elt [⟨target,iter,ifs,0⟩] scope pos) (jE js wi g tt te):=by
  intro pins s σ H Q I h
  rw [eval_ListComp]
  refine mZ (use:=none) K hc hi hgg htt hee hs pins s σ H Q I h fun D C H4 s5 m IX hn fC nL _ sz nc np qn=>?_
  exact ⟨m,hn,fun h' hs'=>⟨.ref D,H4,IX.turned (t':=s5.toks) (it:=C) (fun b o hb e=>(hs'.2 b hb).trans e) fC nL (.inr sz) nc np,rfl,qn⟩⟩
theorem vI {x:Str} {px spos:Pos} {gx:TG} (K:CompOk X scope sc cl N js) (hc:X.calm=true) (hx:PG X (.Name x px) gx) (hi:PI X target iter wi)
    (hgg:∀C s₀ H₀ fp,PG (X.comp sc cl N C s₀ H₀ fp) target g) (htt:∀C s₀ H₀ fp,zD (X.comp sc cl N C s₀ H₀ fp) ifs tt) (hee:∀C s₀ H₀ fp,PE (X.comp sc cl N C s₀ H₀ fp) elt te)
    (hs:∀x,foldedSetIterable iter X.env x=pure x:=by intro _;rfl) (hsw:swapsWith (.ListComp elt [⟨target,iter,ifs,0⟩] scope pos) (some (.Name x px)) spos.line X.env=pure true:=by rfl):
    PS X (.Assign [.Name x px] (.ListComp elt [⟨target,iter,ifs,0⟩] scope pos) spos) (oF (jE js wi g tt te) gx):=by
  intro pins s σ H D I h
  rw [exec_Assign_Name_used _ _ _ _ hsw]
  refine wpAny_bind (wpAny_standAt (wpAny_bind ?_))
  show wpAny _ _ (comprehension (.ListComp elt [⟨target,iter,ifs,0⟩] scope pos) scope X.env (firstIterPos [⟨target,iter,ifs,0⟩] pos) (newList []) false (firstIter [⟨target,iter,ifs,0⟩] X.env) (some (assign (.Name x px) X.env)) >>= fun _=>pure ()) _ _ _
  refine wpAny_bind (wpAny_mono (mZ (use:=some (assign (.Name x px) X.env)) (Qv:=fun _ s'=>∃σ' H',Inv X pins σ' H' s'∧D.nx σ' H') K hc hi hgg htt hee hs pins s σ H _ I h fun Dd C H4 s5 m IX hn fC nL nF sz nc np qn=>?_) (fun _ s' ⟨σ',H',I',q'⟩=>wpAny_pure (wpAny_pure ⟨σ',H',I',q'⟩)) fun _ _ e=>e)
  obtain ⟨o,es,ep,ho,hd,r⟩:=hn
  have IP:Inv X ((C,o)::pins) σ H4 s5:=IX.pins_of fun p hp=>(List.mem_cons.mp hp).elim (fun z=>by subst z;exact ⟨ho,fC,nL,nF,fun v z=>by rw [hd] at z;cases z⟩) fun z=>IX.pin p (List.mem_append_right _ z)
  refine wpAny_mono (hx ((C,o)::pins) s5 σ H4 (.ref Dd) (.ref Dd) D.nx IP rfl qn) (fun _ s6 ⟨σ6,H6,I6,q6⟩=>?_) fun _ _ e=>e
  obtain ⟨p1,p2,_⟩:=I6.pin (C,o) (List.mem_append_right _ (List.mem_cons_self ..))
  have I7:Inv X pins σ6 H6 s6:=I6.pins_of fun p hp=>I6.pin p (List.mem_append_right _ (List.mem_cons_of_mem _ hp))
  exact ⟨m,⟨o,es,ep,p1,hd,r⟩,fun h' hs'=>⟨σ6,H6,I7.turned (t':=s6.toks) (it:=C) (fun b o hb e=>(hs'.2 b hb).trans e) p2 nL (.inr sz) nc np,q6⟩⟩
end
end L2
namespace L2
open PySem PySem.Spec PyProof.Rows
theorem fI {X:Cx} {scope:Scope} {N:List Str} {js:List (Option Nat)} (hf:∀x∈scope.names,x.2≠ .free:=by decide+kernel) (hcell:∀x∈scope.names,x.2≠ .cell:=by decide+kernel)
    (hk:scope.kind= .function:=by rfl) (hn:∀y∈scope.names,y.2= .local→scope.names.lookup y.1=some .local:=by decide+kernel) (hl:js.length=N.length:=by rfl) (hj:∀j∈js,j=none:=by decide):CompOk X scope scope [] N js where
  clos:=closureFor_none hf
  rel:=by
    unfold relabel
    have e:(scope.names.map fun (x:Str×NameKind)=>match x with | (n,k)=>if (k == .free&&X.env.scope.kind == .function&&X.env.kindOf n == some .cell) then (n,NameKind.cell) else (n,k))=scope.names:=by
      refine map_eq_self fun x hx=>?_
      obtain ⟨n,k⟩:=x
      have:(k == NameKind.free)=false:=by simpa using hf _ hx
      simp [this]
    rw [e]
  nocell:=hcell
  kind:=hk
  names:=hn
  same:=fun x c e=>by simp at e
  has:=fun x h=>by
    rcases h with h | h
    · exact absurd rfl (hcell _ (PySem.mem_of_lookup h))
    · exact absurd rfl (hf _ (PySem.mem_of_lookup h))
  len:=hl
  from_:=fun i j h=>by
    have:=hj _ (List.mem_of_getElem? h)
    cases this
theorem vJ {σ:St} {H:Hp} {A B:Bool→Hp→Prop} (h:A true H):rM σ H (fun b H4=>if b=true then A b H4 else B b H4):=by
  show (if true=true then A true H else B true H)
  rw [if_pos rfl]
  exact h
theorem rN {i:Nat} {x:V} {σ:St} {H:Hp} {A B:St→Bool→Hp→Prop} (h:A (σ.set i (some x)) true H):dL i x σ H (fun σ3 H3=>rM σ3 H3 fun b H4=>if b=true then A σ3 b H4 else B σ3 b H4):=
  vJ (σ:=σ.set i (some x)) (A:=A (σ.set i (some x))) (B:=B (σ.set i (some x))) h
structure Own (P:Program) (w:World) (K:PySem.W.Frag) (mg:Str→Option Value) (base:Heap) (k:Nat) (x:Str) (ps:List Str) (sp:Sp):Prop where
  ex:∃(f:Addr) (fd:FuncData),FnOk P w K mg base sP k f fd ps sp∧Binds K fd ps []∧mg x=some (.ref f)∧PySem.W.keepIn K (.ref f)=true
theorem jF {X:Cx} {k:Nat} {x:Str} {ps:List Str} {sp:Sp} {p pos:Pos} {e:Expr} {es:List Expr} {t:TA} (D:Own X.prog X.w X.K X.mg X.base k x ps sp) (hr:Room k X.A) (hg:Gl X x) (ha:PA X (e::es) t)
    (hdb:(x == ("__debug__":Str))=false:=by decide) (he:starEach (e::es) X.env=(false,eval e X.env)::starEach es X.env:=by rfl) (hpl:(backTo pos (starEach es X.env)).any (·.1)=false:=by rfl):
    PE X (.Call (.Name x p) (e::es) [] pos) (kr sp [] E0 t):=by
  obtain ⟨f,fd,F,b,m,kp⟩:=D.ex
  exact vx F hr hg m kp b .nil zv ha hdb he hpl
structure Def (K:PySem.W.Frag) (mg:Str→Option Value) (x:Str) (st:Stmt) (ps:List Str):Prop where
  ex:∃(f:Addr) (fd:FuncData),Fun K x x st f fd∧mg x=some (.ref f)∧Binds K fd ps []
theorem Def.own {P:Program} {w:World} {K:PySem.W.Frag} {mg:Str→Option Value} {base:Heap} {x:Str} {st:Stmt} {N ps:List Str} {k:Nat} {sp:Sp} (D:Def K mg x st ps) (S:FnScope N ps (aj st))
    (len:∀vs H Q E,sp vs H Q E→vs.length=ps.length)
    (hbody:∀(f:Addr) (cdv:Value) (A:Around) (outer:List Env) (s:Shared) (H:Hp) (vs:List V) (Q:VK) (E:XK),Room k (A.deeper (envOfC x (aj st) s.heap.objs.size f cdv))→sp vs H Q E→
      ∃t,PSs (lB sP P w K mg base N x (aj st) f cdv A outer s H E).nox (cn st) t∧t {nx:=fun _ H'=>Q .non H',rt:=Q} (start N vs) H):Own P w K mg base (k+1) x ps sp:=by
  obtain ⟨f,fd,F,m,b⟩:=D.ex
  exact ⟨f,fd,F.ok S len (hbody f),b,m,F.kp⟩
theorem xX {K:PySem.W.Frag} {h:Heap} {mg:Str→Option Value} {x:Str} {st:Stmt} {ps:List Str} {f:Addr} {oc:Value} {od an:Option Addr} {osl:Array (Option Value)} {kV doc pm cdv ct:Value} (X:K.In h) (G:h.Ns mainGlobals mg)
    (a:PySem.W.nsIn K mainGlobals x=some (some (.ref f))) (l:K.lookup f=some ⟨oc,od, .func (PySem.W.fnOf x x (dU st) (cn st) (aj st) .none kV doc pm an cdv ct),osl⟩)
    (c:PySem.W.codeIn K cdv x=true) (k:PySem.W.keepIn K (.ref f)=true)
    (b:∀(kV doc pm:Value) (an:Option Addr) (cdv ct:Value) (us:List Value),us.length=ps.length→bindArgs (PySem.W.fnOf x x (dU st) (cn st) (aj st) .none kV doc pm an cdv ct) ⟨us,[]⟩=pure (ps.zip us)):Def K mg x st ps:=
  ⟨f,_,oR l c k,PySem.W.mg_of X G a,(oR (st:=st) l c k).binds b⟩
end L2
namespace Nh
open PySem L2
section
variable {α β:Type} {F:α→β→Prop}
theorem gz:∀{a:List α} {b:List β} {c:List α} {d:List β},Paired F a b→Paired F c d→Paired F (a++c) (b++d)
  | _,_,_,_, .nil,s=>s
  | _,_,_,_, .cons r t,s=> .cons r (gz t s)
theorem qc:∀{a:List α} {b:List β} (n:Nat),Paired F a b→Paired F (a.take n) (b.take n)
  | _,_,0,_=> .nil
  | _,_,_+1, .nil=> .nil
  | _,_,n+1, .cons r t=> .cons r (qc n t)
theorem qd:∀{a:List α} {b:List β} (n:Nat),Paired F a b→Paired F (a.drop n) (b.drop n)
  | _,_,0,r=>r
  | _,_,_+1, .nil=> .nil
  | _,_,n+1, .cons _ t=>qd n t
theorem gY:∀{a:List α} {b:List β},Paired F a b→Paired F a.reverse b.reverse
  | _,_, .nil=> .nil
  | _,_, .cons r t=>by
    rw [List.reverse_cons,List.reverse_cons]
    exact gz (gY t) (.cons r .nil)
theorem qe:∀{a:List α} {b:List β} {i:Nat} {y:β},Paired F a b→b[i]? =some y→∃x,a[i]? =some x∧F x y
  | _,_,_,_, .nil,e=>by simp at e
  | _,_,0,_, .cons r _,e=>by simp at e;subst e;exact ⟨_,rfl,r⟩
  | _,_,i+1,x, .cons _ t,e=>by
    obtain ⟨u,h1,h2⟩:=qe (i:=i) (y:=x) t (by simpa using e)
    exact ⟨u,by simpa using h1,h2⟩
theorem tL {a:List α} {b:List β} (h:Paired F a b):∀k:Nat,Paired F (List.replicate k a).flatten (List.replicate k b).flatten
  | 0=> .nil
  | k+1=>by
    rw [List.replicate_succ,List.replicate_succ,List.flatten_cons,List.flatten_cons]
    exact gz h (tL h k)
end
abbrev Pc:=Nat×Int
def tv (p:Pc):List V:=[.str ⟨#[p.1]⟩, .int p.2]
def AO (H:Hp) (v:V) (p:Pc):Prop:=∃t,v= .ref t∧H t=some (.tup (tv p))
abbrev PAll (H:Hp):List V→List Pc→Prop:=Paired (AO H)
section
variable {H H':Hp} {l:Addr} {xs ys:List V} {c:List Pc}
theorem PAll.same (s:Same H H') (h:PAll H xs c):PAll H' xs c:=Paired.mapP h fun _ _ ⟨t,e,q⟩=>⟨t,e,s _ _ q⟩
theorem PAll.len (h:PAll H xs c):xs.length=c.length:=Paired.length h
end
def Cord (H:Hp) (a:Addr) (c:List Pc):Prop:=∃xs,H a=some (.lst xs)∧PAll H xs c
section
variable {H H':Hp} {a:Addr} {c d:List Pc}
theorem Cord.same (s:Same H H') (h:Cord H a c):Cord H' a c:=let ⟨xs,e,p⟩:=h;⟨xs,s _ _ e,p.same s⟩
end
def aw (p:Pc):PyData:= .tuple [.str ⟨#[p.1]⟩, .int p.2]
def gN (c:List Pc):PyData:= .list (c.map aw)
def NailsOk (c:List Pc):Prop:=∀p∈c,p.1 < 128
theorem kH {K:PySem.W.Frag} {H:Hp}:∀{xs:List V} {c:List Pc},PAll H xs c→DAll K H xs (c.map aw)
  | _,_, .nil=> .nil
  | _,_, .cons ⟨t,e,q⟩ r=>by
    subst e
    exact .cons (.tup (SqT.of q) (.cons (.str _) (.cons (.int _) .nil))) (kH r)
theorem Cord.data {K:PySem.W.Frag} {H:Hp} {a:Addr} {c:List Pc} (h:Cord H a c):DOf K H (.ref a) (gN c):=
  let ⟨_,e,p⟩:=h; .lst (SqL.of e) (kH p)
theorem zE {p:Pc} (h:p.1 < 128):(aw p).canLay0=true:=by
  have:p.1 < 1114112:=by omega
  simp [aw,PyData.canLay0,PyData.canLayAll0,PyData.strOk,this]
theorem m4:∀{c:List Pc},NailsOk c→PyData.canLayAll0 (c.map aw)=true∧PyData.depthAll (c.map aw)≤1
  | [],_=>by simp [PyData.canLayAll0,PyData.depthAll]
  | p::c,h=>by
    have ih:=m4 (c:=c) fun q hq=>h q (List.mem_cons_of_mem _ hq)
    have h1:=zE (h p (List.mem_cons_self ..))
    have h2:=ih.2
    simp only [List.map_cons,PyData.canLayAll0,PyData.depthAll,h1,ih.1,Bool.and_self,true_and]
    have h3:(aw p).depth=1:=by simp [aw,PyData.depth,PyData.depthAll]
    omega
theorem iY {c:List Pc} (h:NailsOk c):SeqAt.shaped (gN c)=true:=by
  have q:=m4 h
  have q2:=q.2
  unfold SeqAt.shaped
  simp only [gN,PyData.canLay0,PyData.depth,q.1,Bool.true_and]
  exact decide_eq_true (by omega)
theorem xY (p q:Pc):PyData.eqv (aw p) (aw q)=decide (p=q):=by
  obtain ⟨n,a⟩:=p
  obtain ⟨m,b⟩:=q
  simp only [aw,PyData.eqv,PyData.eqvAll,Bool.and_true]
  rw [Bool.eq_iff_iff]
  simp
theorem kI:∀c d:List Pc,PyData.eqvAll (c.map aw) (d.map aw)=decide (c=d)
  | [],[]=>by simp [PyData.eqvAll]
  | [],_::_=>by simp [PyData.eqvAll]
  | _::_,[]=>by simp [PyData.eqvAll]
  | p::c,q::d=>by
    simp only [List.map_cons,PyData.eqvAll,xY,kI c d]
    rw [Bool.eq_iff_iff]
    simp
theorem tM (c d:List Pc):PyData.eqv (gN c) (gN d)=decide (c=d):=by
  simp only [gN,PyData.eqv,kI]
end Nh
namespace PL
open PySem PySem.Spec PyProof.Rows L2 Nh
def AQ:bu→PyData
  | .inl i=> .int i
  | .inr x=> .str x
mutual
inductive Rp (K:PySem.W.Frag) (H:Hp):V→PyData→Prop
  | non:Rp K H .non .none
  | bl (b:Bool):Rp K H (.bl b) (.bool b)
  | int (i:Int):Rp K H (.int i) (.int i)
  | str (x:Str):Rp K H (.str x) (.str x)
  | lst {a:Addr} {xs:List V} {ds:List PyData}:SqL K H a xs→RpA K H xs ds→Rp K H (.ref a) (.list ds)
  | tup {a:Addr} {xs:List V} {ds:List PyData}:SqT K H a xs→RpA K H xs ds→Rp K H (.ref a) (.tuple ds)
  | dct {a:Addr} {us:List (bu×V)} {kvs:List (PyData×PyData)}:Rd H a (.dK us)→RpK K H us kvs→Rp K H (.ref a) (.dict kvs)
inductive RpA (K:PySem.W.Frag) (H:Hp):List V→List PyData→Prop
  | nil:RpA K H [] []
  | cons {x:V} {xs:List V} {d:PyData} {ds:List PyData}:Rp K H x d→RpA K H xs ds→RpA K H (x::xs) (d::ds)
inductive RpK (K:PySem.W.Frag) (H:Hp):List (bu×V)→List (PyData×PyData)→Prop
  | nil:RpK K H [] []
  | cons {k:bu} {x:V} {us:List (bu×V)} {d:PyData} {kvs:List (PyData×PyData)}:Rp K H x d→RpK K H us kvs→RpK K H ((k,x)::us) ((AQ k,d)::kvs)
end
mutual
def cJ:PyData→Bool
  | .none=>true
  | .bool _=>true
  | .int _=>true
  | .str _=>true
  | .list _=>false
  | .tuple xs=>aO xs
  | .dict _=>false
def aO:List PyData→Bool
  | []=>true
  | d::ds=>cJ d&&aO ds
end
def wP:HO→Bool
  | .tup _=>true
  | .frz _ _=>true
  | _=>false
def tups (H:Hp):Hp:=fun b=>(H b).filter wP
theorem iA (H:Hp):Same (tups H) H:=fun b o h=>(Option.filter_eq_some_iff.mp h).1
theorem gA {H:Hp} {b:Addr} {o:HO} (h:H b=some o) (c:wP o=true):tups H b=some o:=Option.filter_eq_some_iff.mpr ⟨h,c⟩
theorem m5 {H:Hp} {l:Addr} {xs ys:List V} (h:H l=some (.lst xs)):tups (upd H l (.lst ys))=tups H:=by
  funext b
  unfold tups
  by_cases e:b=l
  · subst e
    rw [upd_same,h]
    rfl
  · rw [ao e]
section
variable {K:PySem.W.Frag} {H H':Hp}
theorem m6 {a:Addr} {xs:List V} (h:SqT K H a xs):SqT K (tups H) a xs:=by
  rcases h with (h | ⟨o,h⟩) | h
  · exact .inl (.inl (gA h rfl))
  · exact .inl (.inr ⟨o,gA h rfl⟩)
  · exact .inr h
theorem lN {a:Addr} {u:HO} (s:Same H H') (h:Rd H a u):Rd H' a u:=by
  rcases h with h | ⟨o,h⟩
  · exact .inl (s _ _ h)
  · exact .inr ⟨o,s _ _ h⟩
theorem Rp.same (s:Same H H') {v:V} {d:PyData} (h:Rp K H v d):Rp K H' v d:=Rp.rec (motive_1:=fun v d _=>Rp K H' v d) (motive_2:=fun v d _=>RpA K H' v d) (motive_3:=fun v d _=>RpK K H' v d) .non .bl .int .str (fun h _ r=> .lst (s.seq h) r) (fun h _ r=> .tup (s.tup h) r) (fun h _ r=> .dct (lN s h) r) .nil (fun _ _ a b=> .cons a b) .nil (fun _ _ a b=> .cons a b) h
theorem RpA.same (s:Same H H') {v:List V} {d:List PyData} (h:RpA K H v d):RpA K H' v d:=RpA.rec (motive_1:=fun v d _=>Rp K H' v d) (motive_2:=fun v d _=>RpA K H' v d) (motive_3:=fun v d _=>RpK K H' v d) .non .bl .int .str (fun h _ r=> .lst (s.seq h) r) (fun h _ r=> .tup (s.tup h) r) (fun h _ r=> .dct (lN s h) r) .nil (fun _ _ a b=> .cons a b) .nil (fun _ _ a b=> .cons a b) h
theorem RpK.same (s:Same H H') {v:List (bu×V)} {d:List (PyData×PyData)} (h:RpK K H v d):RpK K H' v d:=RpK.rec (motive_1:=fun v d _=>Rp K H' v d) (motive_2:=fun v d _=>RpA K H' v d) (motive_3:=fun v d _=>RpK K H' v d) .non .bl .int .str (fun h _ r=> .lst (s.seq h) r) (fun h _ r=> .tup (s.tup h) r) (fun h _ r=> .dct (lN s h) r) .nil (fun _ _ a b=> .cons a b) .nil (fun _ _ a b=> .cons a b) h
theorem Rp.cold {v:V} {d:PyData} (h:Rp K H v d) (e:cJ d=true):Rp K (tups H) v d:=Rp.rec (motive_1:=fun v d _=>cJ d=true→Rp K (tups H) v d) (motive_2:=fun v d _=>aO d=true→RpA K (tups H) v d) (motive_3:=fun _ _ _=>True) (fun _=> .non) (fun b _=> .bl b) (fun i _=> .int i) (fun x _=> .str x) (fun _ _ _ e=>nomatch e) (fun h _ r e=> .tup (m6 h) (r e)) (fun _ _ _ e=>nomatch e) (fun _=> .nil) (fun _ _ a b e=> .cons (a (Bool.and_eq_true_iff.mp e).1) (b (Bool.and_eq_true_iff.mp e).2)) trivial (fun _ _ _ _=>trivial) h e
theorem RpA.cold {v:List V} {d:List PyData} (h:RpA K H v d) (e:aO d=true):RpA K (tups H) v d:=RpA.rec (motive_1:=fun v d _=>cJ d=true→Rp K (tups H) v d) (motive_2:=fun v d _=>aO d=true→RpA K (tups H) v d) (motive_3:=fun _ _ _=>True) (fun _=> .non) (fun b _=> .bl b) (fun i _=> .int i) (fun x _=> .str x) (fun _ _ _ e=>nomatch e) (fun h _ r e=> .tup (m6 h) (r e)) (fun _ _ _ e=>nomatch e) (fun _=> .nil) (fun _ _ a b e=> .cons (a (Bool.and_eq_true_iff.mp e).1) (b (Bool.and_eq_true_iff.mp e).2)) trivial (fun _ _ _ _=>trivial) h e
theorem Rp.dof' {v:V} {d:PyData} (h:Rp K H v d) (e:d.canLay0=true):DOf K H v d:=Rp.rec (motive_1:=fun v d _=>d.canLay0=true→DOf K H v d) (motive_2:=fun v d _=>PyData.canLayAll0 d=true→DAll K H v d) (motive_3:=fun _ _ _=>True) (fun _=> .non) (fun b _=> .bl b) (fun i _=> .int i) (fun x _=> .str x) (fun h _ r e=> .lst h (r e)) (fun h _ r e=> .tup h (r e)) (fun _ _ _ e=>nomatch e) (fun _=> .nil) (fun _ _ a b e=> .cons (a (Bool.and_eq_true_iff.mp e).1) (b (Bool.and_eq_true_iff.mp e).2)) trivial (fun _ _ _ _=>trivial) h e
theorem Rp.dof {v:V} {d:PyData} (h:Rp K H v d) (e:SeqAt.shaped d=true):DOf K H v d:=h.dof' (SeqAt.canLay_of_shaped e)
theorem RpA.pr {vs:List V} {ds:List PyData} (h:RpA K H vs ds):Paired (Rp K H) vs ds:=RpA.rec (motive_1:=fun _ _ _=>True) (motive_2:=fun v d _=>Paired (Rp K H) v d) (motive_3:=fun _ _ _=>True) trivial (fun _=>trivial) (fun _=>trivial) (fun _=>trivial) (fun _ _ _=>trivial) (fun _ _ _=>trivial) (fun _ _ _=>trivial) .nil (fun h _ _ b=> .cons h b) trivial (fun _ _ _ _=>trivial) h
theorem RpA.of {vs:List V} {ds:List PyData} (h:Paired (Rp K H) vs ds):RpA K H vs ds:=by
  induction h with
  | nil=>exact .nil
  | cons a _ b=>exact .cons a b
theorem RpA.len {vs:List V} {ds:List PyData} (h:RpA K H vs ds):vs.length=ds.length:=Paired.length h.pr
theorem RpA.append {vs us:List V} {ds es:List PyData} (h:RpA K H vs ds) (k:RpA K H us es):RpA K H (vs++us) (ds++es):= .of (gz h.pr k.pr)
theorem RpA.take {vs:List V} {ds:List PyData} (n:Nat) (h:RpA K H vs ds):RpA K H (vs.take n) (ds.take n):= .of (qc n h.pr)
theorem RpA.drop {vs:List V} {ds:List PyData} (n:Nat) (h:RpA K H vs ds):RpA K H (vs.drop n) (ds.drop n):= .of (qd n h.pr)
theorem RpA.rev {vs:List V} {ds:List PyData} (h:RpA K H vs ds):RpA K H vs.reverse ds.reverse:= .of (gY h.pr)
theorem RpA.rep {vs:List V} {ds:List PyData} (n:Nat) (h:RpA K H vs ds):RpA K H (List.replicate n vs).flatten (List.replicate n ds).flatten:= .of (tL h.pr n)
theorem RpA.get {vs:List V} {ds:List PyData} {i:Nat} {d:PyData} (h:RpA K H vs ds) (e:ds[i]? =some d):∃v,vs[i]? =some v∧Rp K H v d:=qe h.pr e
theorem RpA.set:∀{vs:List V} {ds:List PyData} {v:V} {d:PyData} (i:Nat),RpA K H vs ds→Rp K H v d→RpA K H (vs.set i v) (ds.set i d)
  | _,_,_,_,_, .nil,_=> .nil
  | _,_,_,_,0, .cons _ r,h=> .cons h r
  | _,_,_,_,i+1, .cons q r,h=> .cons q (RpA.set i r h)
theorem RpA.dropLast {vs:List V} {ds:List PyData} (h:RpA K H vs ds):RpA K H vs.dropLast ds.dropLast:=by
  rw [List.dropLast_eq_take,List.dropLast_eq_take,h.len]
  exact h.take _
theorem RpA.snoc {vs:List V} {ds:List PyData} {v:V} {d:PyData} (h:RpA K H vs ds) (k:Rp K H v d):RpA K H (vs++[v]) (ds++[d]):=h.append (.cons k .nil)
end
inductive Pt where
  | fl (d:PyData) | ol (ds:List PyData)
def Pt.val:Pt→PyData
  | .fl d=>d
  | .ol ds=> .list ds
inductive Sl where
  /-- nothing is known -/
  | no
  /-- never written again -/
  | sh (d:PyData)
  /-- a list of one's own -/
  | ow (ds:List PyData)
  /-- a dict of one's own,its values lists of one's own -/
  | od (kvs:List (bu×List PyData))
  /-- a dict of one's own,its values cJ -/
  | oi (kvs:List (bu×PyData))
  /-- a tuple with lists of one's own -/
  | tx (ps:List Pt)
  /-- (a part of an expression) the value of a name -/
  | al (i:Nat)
  /-- (a part of an expression) as it stands just now -/
  | br (d:PyData)
def PtsOk (K:PySem.W.Frag) (F H:Hp):List V→List Pt→List Addr→Prop
  | [],[],A=>A=[]
  | v::vs, .fl d::ps,A=>Rp K F v d∧PtsOk K F H vs ps A
  | v::vs, .ol ds::ps,A=>∃l us A',v= .ref l∧A=l::A'∧H l=some (.lst us)∧RpA K F us ds∧PtsOk K F H vs ps A'
  | _,_,_=>False
def KvOk (K:PySem.W.Frag) (F:Hp):List (bu×V)→List (bu×PyData)→Prop:=Paired fun p q=>p.1=q.1∧Rp K F p.2 q.2
def DlOk (K:PySem.W.Frag) (F H:Hp):List (bu×V)→List (bu×List PyData)→List Addr→Prop
  | [],[],A=>A=[]
  | p::us,q::kvs,A=>∃l vs A',p=(q.1, .ref l)∧A=l::A'∧H l=some (.lst vs)∧RpA K F vs q.2∧DlOk K F H us kvs A'
  | _,_,_=>False
def SlOk (K:PySem.W.Frag) (F H:Hp) (σ:L2.St) (o:Option V):Sl→List Addr→Prop
  | .no,A=>A=[]
  | .sh d,A=>A=[]∧∃v,o=some v∧Rp K F v d
  | .ow ds,A=>∃l vs,o=some (.ref l)∧A=[l]∧H l=some (.lst vs)∧RpA K F vs ds
  | .od kvs,A=>∃l us A',o=some (.ref l)∧A=l::A'∧H l=some (.dK us)∧DlOk K F H us kvs A'
  | .oi kvs,A=>∃l us,o=some (.ref l)∧A=[l]∧H l=some (.dK us)∧KvOk K F us kvs
  | .tx ps,A=>∃t vs,o=some (.ref t)∧F t=some (.tup vs)∧PtsOk K F H vs ps A
  | .al i,A=>A=[]∧∃v,o=some v∧σ[i]? =some (some v)
  | .br d,A=>A=[]∧∃v,o=some v∧Rp K H v d
def Sl.isBr:Sl→Bool
  | .br _=>true
  | _=>false
def Sl.isAl:Sl→Bool
  | .al _=>true
  | .br _=>true
  | _=>false
section
variable {K:PySem.W.Frag} {F F' H H':Hp} {σ σ':L2.St}
theorem PtsOk.stay (s:Same F F'):∀{vs:List V} {ps:List Pt} {A:List Addr},(∀b∈A,H' b=H b)→PtsOk K F H vs ps A→PtsOk K F' H' vs ps A
  | [],[],A,_,h=>h
  | v::vs, .fl d::ps,A,e,h=>⟨h.1.same s,PtsOk.stay s e h.2⟩
  | v::vs, .ol ds::ps,A,e,h=>by
    obtain ⟨l,us,A',rfl,rfl,hl,hr,q⟩:=h
    exact ⟨l,us,A',rfl,rfl,(e l (List.mem_cons_self ..)).trans hl,hr.same s,q.stay s fun b hb=>e b (List.mem_cons_of_mem _ hb)⟩
  | [],_::_,_,_,h=>False.elim h
  | _::_,[],_,_,h=>False.elim h
theorem DlOk.stay (s:Same F F'):∀{us:List (bu×V)} {kvs:List (bu×List PyData)} {A:List Addr},(∀b∈A,H' b=H b)→DlOk K F H us kvs A→DlOk K F' H' us kvs A
  | [],[],A,_,h=>h
  | p::us,q::kvs,A,e,h=>by
    obtain ⟨l,vs,A',rfl,rfl,hl,hr,k⟩:=h
    exact ⟨l,vs,A',rfl,rfl,(e l (List.mem_cons_self ..)).trans hl,hr.same s,k.stay s fun b hb=>e b (List.mem_cons_of_mem _ hb)⟩
  | [],_::_,_,_,h=>False.elim h
  | _::_,[],_,_,h=>False.elim h
theorem DlOk.some:∀{us:List (bu×V)} {kvs:List (bu×List PyData)} {A:List Addr},DlOk K F H us kvs A→∀a∈A,∃vs,H a=some (.lst vs)
  | [],[],A,h,a,ha=>by rw [show A=[] from h] at ha;cases ha
  | p::us,q::kvs,A,h,a,ha=>by
    obtain ⟨l,vs,A',rfl,rfl,hl,hr,k⟩:=h
    rcases List.mem_cons.mp ha with e | e
    · subst e;exact ⟨vs,hl⟩
    · exact k.some a e
  | [],_::_,_,h,_,_=>False.elim h
  | _::_,[],_,h,_,_=>False.elim h
theorem PtsOk.some:∀{vs:List V} {ps:List Pt} {A:List Addr},PtsOk K F H vs ps A→∀a∈A,∃us,H a=some (.lst us)
  | [],[],A,h,a,ha=>by rw [show A=[] from h] at ha;cases ha
  | v::vs, .fl d::ps,A,h,a,ha=>PtsOk.some h.2 a ha
  | v::vs, .ol ds::ps,A,h,a,ha=>by
    obtain ⟨l,us,A',rfl,rfl,hl,hr,q⟩:=h
    rcases List.mem_cons.mp ha with e | e
    · subst e;exact ⟨us,hl⟩
    · exact q.some a e
  | [],_::_,_,h,_,_=>False.elim h
  | _::_,[],_,h,_,_=>False.elim h
theorem PtsOk.rp (s:Same F H):∀{vs:List V} {ps:List Pt} {A:List Addr},PtsOk K F H vs ps A→RpA K H vs (ps.map Pt.val)
  | [],[],A,_=> .nil
  | v::vs, .fl d::ps,A,h=> .cons (h.1.same s) (PtsOk.rp s h.2)
  | v::vs, .ol ds::ps,A,h=>by
    obtain ⟨l,us,A',rfl,rfl,hl,hr,q⟩:=h
    exact .cons (.lst (SqL.of hl) (hr.same s)) (q.rp s)
  | [],_::_,_,h=>False.elim h
  | _::_,[],_,h=>False.elim h
theorem KvOk.same (s:Same F F') {us:List (bu×V)} {kvs:List (bu×PyData)} (h:KvOk K F us kvs):KvOk K F' us kvs:=by
  induction h with
  | nil=>exact .nil
  | cons a _ b=>exact .cons ⟨a.1,a.2.same s⟩ b
theorem SlOk.stay {o:Option V} {s:Sl} {A:List Addr} (hF:Same F F') (e:∀b∈A,H' b=H b) (hb:s.isBr=true→Same H H') (h:SlOk K F H σ o s A):SlOk K F' H' σ o s A:=by
  cases s with
  | no=>exact h
  | sh d=>obtain ⟨rfl,v,rfl,r⟩:=h;exact ⟨rfl,v,rfl,r.same hF⟩
  | ow ds=>obtain ⟨l,vs,rfl,rfl,hl,r⟩:=h;exact ⟨l,vs,rfl,rfl,(e l (by simp)).trans hl,r.same hF⟩
  | od kvs=>obtain ⟨l,us,A',rfl,rfl,hl,r⟩:=h;exact ⟨l,us,A',rfl,rfl,(e l (by simp)).trans hl,r.stay hF fun b hb=>e b (List.mem_cons_of_mem _ hb)⟩
  | oi kvs=>obtain ⟨l,us,rfl,rfl,hl,r⟩:=h;exact ⟨l,us,rfl,rfl,(e l (by simp)).trans hl,r.same hF⟩
  | tx ps=>obtain ⟨t,vs,rfl,ht,r⟩:=h;exact ⟨t,vs,rfl,hF _ _ ht,r.stay hF e⟩
  | al i=>exact h
  | br d=>obtain ⟨rfl,v,rfl,r⟩:=h;exact ⟨rfl,v,rfl,r.same (hb rfl)⟩
theorem SlOk.mut {o:Option V} {s:Sl} {A:List Addr} (h:SlOk K F H σ o s A):∀a∈A,(∃us,H a=some (.lst us))∨∃us,H a=some (.dK us):=by
  cases s with
  | no=>intro a ha;rw [show A=[] from h] at ha;cases ha
  | sh d=>obtain ⟨rfl,_⟩:=h;intro a ha;cases ha
  | ow ds=>obtain ⟨l,vs,rfl,rfl,hl,r⟩:=h;intro a ha;rw [List.mem_singleton.mp ha];exact .inl ⟨_,hl⟩
  | od kvs=>
    obtain ⟨l,vs,A',rfl,rfl,hl,r⟩:=h
    intro a ha
    rcases List.mem_cons.mp ha with z | z
    · rw [z];exact .inr ⟨_,hl⟩
    · exact .inl (r.some a z)
  | oi kvs=>obtain ⟨l,us,rfl,rfl,hl,r⟩:=h;intro a ha;rw [List.mem_singleton.mp ha];exact .inr ⟨_,hl⟩
  | tx ps=>obtain ⟨t,vs,rfl,ht,r⟩:=h;exact fun a ha=> .inl (r.some a ha)
  | al i=>obtain ⟨rfl,_⟩:=h;intro a ha;cases ha
  | br d=>obtain ⟨rfl,_⟩:=h;intro a ha;cases ha
end
inductive SAll (P:Option V→Sl→List Addr→Prop):List (Option V)→List Sl→List Addr→Prop
  | nil:SAll P [] [] []
  | cons {o:Option V} {s:Sl} {A:List Addr} {os:List (Option V)} {ss:List Sl} {B:List Addr}:P o s A→SAll P os ss B→SAll P (o::os) (s::ss) (A++B)
section
variable {P P':Option V→Sl→List Addr→Prop}
theorem SAll.len {os:List (Option V)} {ss:List Sl} {A:List Addr} (h:SAll P os ss A):os.length=ss.length:=by
  induction h with
  | nil=>rfl
  | cons _ _ b=>exact congrArg (· +1) b
theorem SAll.mono {os:List (Option V)} {ss:List Sl} {A:List Addr} (h:SAll P os ss A):(∀o s B,s∈ss→(∀b∈B,b∈A)→P o s B→P' o s B)→SAll P' os ss A:=by
  induction h with
  | nil=>exact fun _=> .nil
  | cons h _ r=>exact fun f=> .cons (f _ _ _ (List.mem_cons_self ..) (fun b hb=>List.mem_append_left _ hb) h) (r fun o s B hs hB q=>f o s B (List.mem_cons_of_mem _ hs) (fun b hb=>List.mem_append_right _ (hB b hb)) q)
theorem SAll.all {R:Addr→Prop} (hR:∀o s B,P o s B→∀b∈B,R b) {os:List (Option V)} {ss:List Sl} {A:List Addr} (h:SAll P os ss A):∀a∈A,R a:=by
  induction h with
  | nil=>exact fun _ ha=>nomatch ha
  | cons h _ r=>exact fun a ha=>(List.mem_append.mp ha).elim (hR _ _ _ h a) (r a)
theorem SAll.at:∀{os:List (Option V)} {ss:List Sl} {A:List Addr} {k:Nat} {s:Sl},SAll P os ss A→ss[k]? =some s→
    ∃o A0 A1 A2,A=A0++(A1++A2)∧os[k]? =some o∧P o s A1∧∀(P':Option V→Sl→List Addr→Prop) (o':Option V) (s':Sl) (A1':List Addr),P' o' s' A1'→
      (∀o s B,s∈ss→(∀b∈B,b∈A0∨b∈A2)→P o s B→P' o s B)→SAll P' (os.set k o') (ss.set k s') (A0++(A1'++A2))
  | _,_,_,_,_, .nil,e=>by simp at e
  | _,_,_,0,s, .cons (o:=o) (A:=A) (B:=B) h r,e=>by
    simp at e;subst e
    refine ⟨o,[],A,B,by simp,rfl,h,fun P' o' s' A1' h' f=>?_⟩
    have z:SAll P' _ _ (A1'++B):= .cons h' (r.mono (P':=P') fun o s B hs hB q=>f o s B (List.mem_cons_of_mem _ hs) (fun b hb=> .inr (hB b hb)) q)
    exact z
  | _,_,_,k+1,s, .cons (o:=o) (A:=A) (B:=B) h r,e=>by
    obtain ⟨o2,A0,A1,A2,eA,eo,hp,f⟩:=r.at (k:=k) (s:=s) (by simpa using e)
    subst eA
    refine ⟨o2,A++A0,A1,A2,by simp,by simpa using eo,hp,fun P' o' s' A1' h' g=>?_⟩
    have z:=f P' o' s' A1' h' fun o s B hs hB q=>g o s B (List.mem_cons_of_mem _ hs) (fun b hb=>(hB b hb).imp (fun x=>List.mem_append_right _ x) id) q
    rw [List.append_assoc]
    exact .cons (g _ _ _ (List.mem_cons_self ..) (fun b hb=> .inl (List.mem_append_left _ hb)) h) z
end
end PL
namespace PL
open PySem L2 Nh
abbrev Sg:=L2.St
structure FrF (K:PySem.W.Frag) (B F:Hp) (A:List Addr) (σ:Sg) (H:Hp) (E:List Sl) (xs:List V) (Xs:List Sl):Prop where
  bf:Same B F
  fh:Same F H
  tf:Same (tups H) F
  sl:SAll (SlOk K F H σ) (xs.map some++σ) (Xs++E) A
  nd:A.Nodup
  fr:∀a∈A,F a=none
  len:xs.length=Xs.length
  pl:∀s∈E,s.isAl=false
def Frm (K:PySem.W.Frag) (B:Hp) (σ:Sg) (H:Hp) (E:List Sl) (xs:List V) (Xs:List Sl):Prop:=∃F A,FrF K B F A σ H E xs Xs
def Sl.val:Sl→Option PyData
  | .sh d=>some d
  | .ow ds=>some (.list ds)
  | .tx ps=>some (.tuple (ps.map Pt.val))
  | .br d=>some d
  | _=>none
def look (E:List Sl):Sl→Option PyData
  | .al i=>(E[i]?).bind Sl.val
  | s=>s.val
def bI:Sl→Bool
  | .br _=>true
  | .tx _=>true
  | _=>false
def df (E:List Sl):Sl→Bool
  | .al i=>(E[i]?).any bI
  | s=>bI s
def RpF (K:PySem.W.Frag) (F H:Hp) (v:V):PyData→Prop
  | .list ds=>∃a vs,v= .ref a∧SqL K H a vs∧RpA K F vs ds
  | d=>Rp K F v d
def m7 (F H:Hp) (A:List Addr):Hp:=fun b=>if b∈A then H b else F b
theorem lO {F H:Hp} {A:List Addr} {b:Addr} (h:b∈A):m7 F H A b=H b:=if_pos h
theorem jG {F H:Hp} {A:List Addr} {b:Addr} (h:b∉A):m7 F H A b=F b:=if_neg h
section
variable {K:PySem.W.Frag} {B F:Hp} {A:List Addr} {σ:Sg} {H:Hp} {E:List Sl} {xs:List V} {Xs:List Sl} {v:V} {s:Sl} {d:PyData}
theorem RpF.of (h:Rp K F v d) (s:Same F H):RpF K F H v d:=by
  cases h with
  | lst h r=>exact ⟨_,_,rfl,s.seq h,r⟩
  | non=>exact .non
  | bl b=>exact .bl b
  | int i=>exact .int i
  | str x=>exact .str x
  | tup h r=>exact .tup h r
  | dct h r=>exact .dct h r
theorem SlOk.val {o:Option V} {A1:List Addr} (h:SlOk K F H σ o s A1) (hF:Same F H) (e:s.val=some d):∃v,o=some v∧Rp K H v d∧(bI s=false→RpF K F H v d):=by
  cases s with
  | no=>cases e
  | sh d'=>
    obtain ⟨rfl,v,rfl,r⟩:=h
    cases e
    exact ⟨v,rfl,r.same hF,fun _=>RpF.of r hF⟩
  | ow ds=>
    obtain ⟨l,vs,rfl,rfl,hl,r⟩:=h
    cases e
    exact ⟨_,rfl, .lst (SqL.of hl) (r.same hF),fun _=>⟨_,_,rfl,SqL.of hl,r⟩⟩
  | od kvs=>cases e
  | oi kvs=>cases e
  | tx ps=>
    obtain ⟨t,vs,rfl,ht,r⟩:=h
    cases e
    exact ⟨_,rfl, .tup (SqT.of (hF _ _ ht)) (r.rp hF),fun z=>by cases z⟩
  | al i=>cases e
  | br d'=>
    obtain ⟨rfl,v,rfl,r⟩:=h
    cases e
    exact ⟨v,rfl,r,fun z=>by cases z⟩
theorem FrF.slen (h:FrF K B F A σ H E xs Xs):σ.length=E.length:=by
  have e:=h.sl.len
  have:=h.len
  simp only [List.length_append,List.length_map] at e
  omega
theorem FrF.var {i:Nat} (h:FrF K B F A σ H E xs Xs) (e:E[i]? =some s):∃o A1,σ[i]? =some o∧SlOk K F H σ o s A1:=by
  obtain ⟨o,A0,A1,A2,eA,eo,hp,_⟩:=h.sl.at (k:=Xs.length+i) (s:=s) (by rw [List.getElem?_append_right (by omega)];simpa using e)
  rw [List.getElem?_append_right (by rw [List.length_map,h.len];omega),List.length_map,h.len,Nat.add_sub_cancel_left] at eo
  exact ⟨o,A1,eo,hp⟩
theorem FrF.ext {k:Nat} (h:FrF K B F A σ H E xs Xs) (e:Xs[k]? =some s):∃v A1,xs[k]? =some v∧SlOk K F H σ (some v) s A1:=by
  have hk:k < Xs.length:=(List.getElem?_eq_some_iff.mp e).1
  obtain ⟨o,A0,A1,A2,eA,eo,hp,_⟩:=h.sl.at (k:=k) (s:=s) (by rw [List.getElem?_append_left hk];exact e)
  rw [List.getElem?_append_left (by rw [List.length_map,h.len];omega),List.getElem?_map] at eo
  cases q:xs[k]? with
  | none=>rw [q] at eo;cases eo
  | some v=>rw [q] at eo;cases eo;exact ⟨v,A1,rfl,hp⟩
theorem FrF.look {k:Nat} (h:FrF K B F A σ H E xs Xs) (e:Xs[k]? =some s) (q:look E s=some d):∃v,xs[k]? =some v∧Rp K H v d∧(df E s=false→RpF K F H v d):=by
  obtain ⟨v,A1,ev,hs⟩:=h.ext e
  cases s with
  | al i=>
    obtain ⟨rfl,w,ew,hw⟩:=hs
    cases ew
    cases ei:E[i]? with
    | none=>simp [PL.look,ei] at q
    | some t=>
      obtain ⟨o,A2,eo,ht⟩:=h.var ei
      rw [hw] at eo
      cases eo
      obtain ⟨v',e',r,c⟩:=ht.val h.fh (d:=d) (by simpa [PL.look,ei] using q)
      cases e'
      exact ⟨v,ev,r,fun z=>c (by simpa [df,ei] using z)⟩
  | no=>cases q
  | od kvs=>cases q
  | oi kvs=>cases q
  | sh d'=>obtain ⟨v',e',r,c⟩:=hs.val h.fh q;cases e';exact ⟨v,ev,r,c⟩
  | ow ds=>obtain ⟨v',e',r,c⟩:=hs.val h.fh q;cases e';exact ⟨v,ev,r,c⟩
  | tx ps=>obtain ⟨v',e',r,c⟩:=hs.val h.fh q;cases e';exact ⟨v,ev,r,c⟩
  | br d'=>obtain ⟨v',e',r,c⟩:=hs.val h.fh q;cases e';exact ⟨v,ev,r,c⟩
theorem FrF.look0 (h:FrF K B F A σ H E (v::xs) (s::Xs)) (q:PL.look E s=some d):Rp K H v d∧(df E s=false→RpF K F H v d):=by
  obtain ⟨v',e,r⟩:=h.look (k:=0) rfl q
  cases e
  exact r
theorem FrF.look1 {w:V} {t:Sl} (h:FrF K B F A σ H E (w::v::xs) (t::s::Xs)) (q:PL.look E s=some d):Rp K H v d∧(df E s=false→RpF K F H v d):=by
  obtain ⟨v',e,r⟩:=h.look (k:=1) rfl q
  cases e
  exact r
theorem FrF.mutA (h:FrF K B F A σ H E xs Xs):∀a∈A,(∃us,H a=some (.lst us))∨∃us,H a=some (.dK us):=
  SAll.all (R:=fun a=>(∃us,H a=some (.lst us))∨∃us,H a=some (.dK us)) (fun _ _ _ q=>q.mut) h.sl
theorem FrF.newA {p:Addr} (h:FrF K B F A σ H E xs Xs) (hp:H p=none):p∉A:=fun hm=>by
  rcases h.mutA p hm with ⟨_,z⟩ | ⟨_,z⟩ <;> rw [hp] at z <;> cases z
theorem FrF.cold {u:V} {e:PyData} (h:FrF K B F A σ H E xs Xs) (r:Rp K H u e) (f:cJ e=true):Rp K F u e:=(r.cold f).same h.tf
theorem FrF.coldA {us:List V} {es:List PyData} (h:FrF K B F A σ H E xs Xs) (r:RpA K H us es) (f:aO es=true):RpA K F us es:=(r.cold f).same h.tf
theorem FrF.push (h:FrF K B F A σ H E xs Xs) (q:SlOk K F H σ (some v) s []):FrF K B F A σ H E (v::xs) (s::Xs):=
  ⟨h.bf,h.fh,h.tf, .cons (A:=[]) q h.sl,h.nd,h.fr,by simp [h.len],h.pl⟩
theorem FrF.pop (h:FrF K B F A σ H E (v::xs) (s::Xs)):∃A',FrF K B F A' σ H E xs Xs:=by
  obtain ⟨bf,fh,tf,sl,nd,fr,len,pl⟩:=h
  generalize hT:List.map some (v::xs)++σ=T at sl
  generalize hS:(s::Xs)++E=S at sl
  cases sl with
  | nil=>cases hS
  | cons q r=>
    injection hT with _ hT
    injection hS with _ hS
    subst hT hS
    exact ⟨_,bf,fh,tf,r,(List.nodup_append.mp nd).2.1,fun a ha=>fr a (List.mem_append_right _ ha),by simpa using len,pl⟩
theorem FrF.grow {H':Hp} (h:FrF K B F A σ H E xs Xs) (g:Same H H'):FrF K B (fun b=>if b∈A then none else H' b) A σ H' E xs Xs:=by
  have nF:∀b o,F b=some o→b∉A:=fun b o e hb=>by rw [h.fr b hb] at e;cases e
  have FF:Same F (fun b=>if b∈A then none else H' b):=fun b o e=>by
    show (if b∈A then none else H' b)=some o
    rw [if_neg (nF b o e)]
    exact g _ _ (h.fh _ _ e)
  have hA:∀b∈A,H' b=H b:=fun b hb=>by
    rcases h.mutA b hb with ⟨_,z⟩ | ⟨_,z⟩ <;> rw [z,g _ _ z]
  refine ⟨h.bf.trans FF,fun b o e=>?_,fun b o e=>?_,h.sl.mono fun o s C _ hC q=>q.stay FF (fun b hb=>hA b (hC b hb)) fun _=>g,h.nd,fun a ha=>if_pos ha,h.len,h.pl⟩
  · by_cases hb:b∈A
    · rw [if_pos hb] at e;cases e
    · rw [if_neg hb] at e;exact e
  · obtain ⟨e1,e2⟩:=Option.filter_eq_some_iff.mp e
    show (if b∈A then none else H' b)=some o
    by_cases hb:b∈A
    · rw [hA b hb] at e1
      rcases h.mutA b hb with ⟨_,z⟩ | ⟨_,z⟩ <;> rw [z] at e1 <;> cases e1 <;> cases e2
    · rw [if_neg hb];exact e1
theorem FrF.newl {p:Addr} {vs:List V} {ds:List PyData} (h:FrF K B F A σ H E xs Xs) (r:RpA K F vs ds) (hp:H p=none):FrF K B F (p::A) σ (upd H p (.lst vs)) E (.ref p::xs) (.ow ds::Xs):=by
  have g:Same H (upd H p (.lst vs)):=cy hp _
  have nA:=h.newA hp
  refine ⟨h.bf,h.fh.trans g,fun b o e=>?_, .cons (A:=[p]) ⟨p,vs,rfl,rfl,upd_same,r⟩ (h.sl.mono fun o s C _ hC q=>q.stay (Same.refl _) (fun b hb=>ao fun z=>nA (z▸hC b hb)) fun _=>g),List.nodup_cons.mpr ⟨nA,h.nd⟩,fun a ha=>?_,by simp [h.len],h.pl⟩
  · obtain ⟨e1,e2⟩:=Option.filter_eq_some_iff.mp e
    by_cases hb:b=p
    · subst hb;rw [upd_same] at e1;cases e1;cases e2
    · rw [ao hb] at e1;exact h.tf b o (gA e1 e2)
  · rcases List.mem_cons.mp ha with z | z
    · subst z;exact h.fh.free hp
    · exact h.fr a z
theorem FrF.newt {p:Addr} {vs:List V} {ds:List PyData} (h:FrF K B F A σ H E xs Xs) (r:RpA K F vs ds) (hp:H p=none):FrF K B (upd F p (.tup vs)) A σ (upd H p (.tup vs)) E (.ref p::xs) (.sh (.tuple ds)::Xs):=by
  have g:Same H (upd H p (.tup vs)):=cy hp _
  have nA:=h.newA hp
  have gF:Same F (upd F p (.tup vs)):=cy (h.fh.free hp) _
  refine ⟨h.bf.trans gF,fun b o e=>?_,fun b o e=>?_, .cons (A:=[]) ⟨rfl,_,rfl, .tup (.inl (.inl upd_same)) (r.same gF)⟩ (h.sl.mono fun o s C _ hC q=>q.stay gF (fun b hb=>ao fun z=>nA (z▸hC b hb)) fun _=>g),h.nd,fun a ha=>?_,by simp [h.len],h.pl⟩
  · by_cases hb:b=p
    · subst hb;rw [upd_same] at e ⊢;exact e
    · rw [ao hb] at e ⊢;exact h.fh _ _ e
  · obtain ⟨e1,e2⟩:=Option.filter_eq_some_iff.mp e
    by_cases hb:b=p
    · subst hb;rw [upd_same] at e1 ⊢;exact e1
    · rw [ao hb] at e1 ⊢;exact h.tf b o (gA e1 e2)
  · have ne:a≠p:=fun z=>nA (z▸ha)
    rw [ao ne];exact h.fr a ha
theorem FrF.mut {i:Nat} {ds:List PyData} (h:FrF K B F A σ H E xs Xs) (e:E[i]? =some (.ow ds)) (c:∀s∈Xs,s.isBr=false):
    ∃l vs,σ[i]? =some (some (.ref l))∧H l=some (.lst vs)∧RpA K F vs ds∧∀vs' ds',RpA K F vs' ds'→FrF K B F A σ (upd H l (.lst vs')) (E.set i (.ow ds')) xs Xs:=by
  obtain ⟨o,A0,A1,A2,eA,eo,hp,put⟩:=h.sl.at (k:=Xs.length+i) (s:= .ow ds) (by rw [List.getElem?_append_right (by omega)];simpa using e)
  rw [List.getElem?_append_right (by rw [List.length_map,h.len];omega),List.length_map,h.len,Nat.add_sub_cancel_left] at eo
  obtain ⟨l,vs,rfl,rfl,hl,r⟩:=hp
  refine ⟨l,vs,eo,hl,r,fun vs' ds' r'=>?_⟩
  have hlA:l∈A:=by rw [eA];simp
  have nl:∀b,b∈A0∨b∈A2→b≠l:=fun b hb z=>by
    subst z
    have nd:=h.nd
    rw [eA] at nd
    rcases hb with hb | hb
    · exact (List.nodup_append.mp nd).2.2 b hb b (by simp) rfl
    · exact (List.nodup_append.mp (List.nodup_append.mp nd).2.1).2.2 b (by simp) b hb rfl
  have lF:F l=none:=h.fr l hlA
  have z:=put (SlOk K F (upd H l (.lst vs')) σ) (some (.ref l)) (.ow ds') [l] ⟨l,vs',rfl,rfl,upd_same,r'⟩ fun o s C hs hC q=>q.stay (Same.refl _) (fun b hb=>ao (nl b (hC b hb))) fun z=>by
    rcases List.mem_append.mp hs with hs | hs
    · rw [c s hs] at z;cases z
    · have:=h.pl s hs
      cases s <;> simp [Sl.isAl,Sl.isBr] at this z
  have e3:(Xs++E).set (Xs.length+i) (.ow ds')=Xs++E.set i (.ow ds'):=by
    rw [List.set_append_right _ _ (by omega),Nat.add_sub_cancel_left]
  have e2:(List.map some xs++σ).set (Xs.length+i) (some (V.ref l))=List.map some xs++σ:=by
    rw [←h.len,List.set_append_right _ _ (by rw [List.length_map];omega),List.length_map,Nat.add_sub_cancel_left]
    congr 1
    exact List.ext_getElem? fun j=>by
      by_cases hj:i=j
      · subst hj
        rw [List.getElem?_set_self',eo];rfl
      · rw [List.getElem?_set_ne hj]
  rw [e2,e3,←eA] at z
  refine ⟨h.bf,fun b o q=>?_,?_,z,h.nd,h.fr,h.len,fun s hs=>?_⟩
  · rw [ao (fun z=>by rw [z,lF] at q;cases q)]
    exact h.fh _ _ q
  · rw [m5 hl];exact h.tf
  · rcases List.mem_or_eq_of_mem_set hs with hs | hs
    · exact h.pl s hs
    · subst hs;rfl
theorem FrF.frzAt {k:Nat} (h:FrF K B F A σ H E xs Xs) (e:(Xs++E)[k]? =some s) (q:s.val=some d) (c:s.isAl=false):
    ∃F' A' v,(xs.map some++σ)[k]? =some (some v)∧Rp K F' v d∧Same B F'∧Same F' H∧Same (tups H) F'∧SAll (SlOk K F' H σ) (xs.map some++σ) ((Xs++E).set k (.sh d)) A'∧A'.Nodup∧∀a∈A',F' a=none:=by
  obtain ⟨o,A0,A1,A2,eA,eo,hp,put⟩:=h.sl.at e
  have nd:=h.nd
  rw [eA] at nd
  have nA1:∀b o,F b=some o→b∉A1:=fun b o e hb=>by
    have:=h.fr b (by rw [eA];simp [hb])
    rw [this] at e;cases e
  have FF:Same F (m7 F H A1):=fun b o e=>by rw [jG (nA1 b o e)];exact e
  obtain ⟨v,rfl,r⟩:∃v,o=some v∧Rp K (m7 F H A1) v d:=by
    cases s with
    | no=>cases q
    | od kvs=>cases q
    | oi kvs=>cases q
    | al i=>cases c
    | br d'=>cases c
    | sh d'=>
      obtain ⟨rfl,v,rfl,r⟩:=hp
      cases q
      exact ⟨v,rfl,r.same FF⟩
    | ow ds=>
      obtain ⟨l,vs,rfl,rfl,hl,r⟩:=hp
      cases q
      exact ⟨_,rfl, .lst (SqL.of ((lO (by simp)).trans hl)) (r.same FF)⟩
    | tx ps=>
      obtain ⟨t,vs,rfl,ht,r⟩:=hp
      cases q
      refine ⟨_,rfl, .tup (SqT.of (FF _ _ ht)) ?_⟩
      have r':PtsOk K (m7 F H A1) (m7 F H A1) vs ps A1:=r.stay FF fun b hb=>lO hb
      exact r'.rp (Same.refl _)
  have e2:(List.map some xs++σ).set k (some v)=List.map some xs++σ:=List.ext_getElem? fun j=>by
    by_cases hj:k=j
    · subst hj
      rw [List.getElem?_set_self',eo];rfl
    · rw [List.getElem?_set_ne hj]
  have z:=put (SlOk K (m7 F H A1) H σ) (some v) (.sh d) [] ⟨rfl,v,rfl,r⟩ fun o s C _ hC q=>q.stay FF (fun b _=>rfl) fun _=>Same.refl _
  rw [e2] at z
  refine ⟨m7 F H A1,A0++A2,v,eo,r,h.bf.trans FF,fun b o e=>?_,fun b o e=>FF _ _ (h.tf _ _ e),by simpa using z,?_,fun a ha=>?_⟩
  · by_cases hb:b∈A1
    · rw [lO hb] at e;exact e
    · rw [jG hb] at e;exact h.fh _ _ e
  · exact List.Nodup.sublist (List.Sublist.append (List.Sublist.refl _) (List.sublist_append_right _ _)) nd
  · have hn:a∉A1:=fun hm=>by
      rcases List.mem_append.mp ha with z | z
      · exact (List.nodup_append.mp nd).2.2 a z a (by simp [hm]) rfl
      · exact (List.nodup_append.mp (List.nodup_append.mp nd).2.1).2.2 a hm a z rfl
    rw [jG hn]
    exact h.fr a (by rw [eA];rcases List.mem_append.mp ha with z | z <;> simp [z])
end
def frz (E:List Sl):Sl→Option (PyData×List Sl)
  | .sh d=>some (d,E)
  | .ow ds=>some (.list ds,E)
  | .tx ps=>some (.tuple (ps.map Pt.val),E)
  | .br d=>if cJ d then some (d,E) else none
  | .al i=>match E[i]? with
    | some (.sh d)=>some (d,E)
    | some (.ow ds)=>some (.list ds,E.set i (.sh (.list ds)))
    | some (.tx ps)=>some (.tuple (ps.map Pt.val),E.set i (.sh (.tuple (ps.map Pt.val))))
    | _=>none
  | _=>none
section
variable {K:PySem.W.Frag} {B F:Hp} {A:List Addr} {σ:Sg} {H:Hp} {E E':List Sl} {xs:List V} {Xs:List Sl} {v:V} {s:Sl} {d:PyData}
theorem FrF.frzVar {i:Nat} (h:FrF K B F A σ H E xs Xs) (e:E[i]? =some s) (q:s.val=some d):∃F' A' v,σ[i]? =some (some v)∧Rp K F' v d∧FrF K B F' A' σ H (E.set i (.sh d)) xs Xs:=by
  obtain ⟨F',A',v,ev,r,b1,b2,b3,sl,nd,fr⟩:=h.frzAt (k:=Xs.length+i) (by rw [List.getElem?_append_right (by omega)];simpa using e) q (h.pl s (List.mem_of_getElem? e))
  rw [List.getElem?_append_right (by rw [List.length_map,h.len];omega),List.length_map,h.len,Nat.add_sub_cancel_left] at ev
  have e3:(Xs++E).set (Xs.length+i) (.sh d)=Xs++E.set i (.sh d):=by
    rw [List.set_append_right _ _ (by omega),Nat.add_sub_cancel_left]
  rw [e3] at sl
  refine ⟨F',A',v,ev,r,b1,b2,b3,sl,nd,fr,h.len,fun s hs=>?_⟩
  rcases List.mem_or_eq_of_mem_set hs with hs | hs
  · exact h.pl s hs
  · subst hs;rfl
theorem FrF.frz0 (h:FrF K B F A σ H E (v::xs) (s::Xs)) (q:PL.frz E s=some (d,E')):∃F' A',FrF K B F' A' σ H E' (v::xs) (.sh d::Xs):=by
  have key:s.val=some d→s.isAl=false→E=E'→∃F' A',FrF K B F' A' σ H E' (v::xs) (.sh d::Xs):=fun q' c e=>by
    subst e
    obtain ⟨F',A',v',ev,r,b1,b2,b3,sl,nd,fr⟩:=h.frzAt (k:=0) rfl q' c
    exact ⟨F',A',b1,b2,b3,sl,nd,fr,by simpa using h.len,h.pl⟩
  have al:∀i t,s= .al i→E[i]? =some t→t.val=some d→E'=E.set i (.sh d)→∃F' A',FrF K B F' A' σ H E' (v::xs) (.sh d::Xs):=fun i t es ei qt eE=>by
    subst es eE
    obtain ⟨v',A1,ev,hs⟩:=h.ext (k:=0) rfl
    cases ev
    obtain ⟨rfl,w,ew,hw⟩:=hs
    cases ew
    obtain ⟨F',A',w,ew,r,h'⟩:=h.frzVar ei qt
    rw [hw] at ew
    cases ew
    obtain ⟨A2,h2⟩:=h'.pop
    exact ⟨F',A2,h2.push ⟨rfl,_,rfl,r⟩⟩
  cases s with
  | no=>cases q
  | od kvs=>cases q
  | oi kvs=>cases q
  | sh d'=>cases q;exact key rfl rfl rfl
  | ow ds=>cases q;exact key rfl rfl rfl
  | tx ps=>cases q;exact key rfl rfl rfl
  | br d'=>
    simp only [PL.frz] at q
    split at q
    · rename_i hf
      cases q
      obtain ⟨r,_⟩:=h.look0 (d:=d) rfl
      obtain ⟨A2,h2⟩:=h.pop
      exact ⟨F,A2,h2.push ⟨rfl,_,rfl,h.cold r hf⟩⟩
    · cases q
  | al i=>
    simp only [PL.frz] at q
    split at q
    · rename_i d' ei
      cases q
      refine al i _ rfl ei rfl ?_
      exact List.ext_getElem? fun j=>by
        by_cases hj:i=j
        · subst hj;rw [List.getElem?_set_self',ei];rfl
        · rw [List.getElem?_set_ne hj]
    · rename_i ds ei
      cases q
      exact al i _ rfl ei rfl rfl
    · rename_i ps ei
      cases q
      exact al i _ rfl ei rfl rfl
    · cases q
theorem FrF.store {i:Nat} (h:FrF K B F A σ H E (v::xs) (s::Xs)) (c:s.isAl=false) (cx:∀s∈Xs,s.isAl=false) (hi:i < E.length):∃A',FrF K B F A' (σ.set i (some v)) H (E.set i s) xs Xs:=by
  have hlen:=h.len
  have hsl:=h.slen
  obtain ⟨bf,fh,tf,sl,nd,fr,len,pl⟩:=h
  generalize hT:List.map some (v::xs)++σ=T at sl
  generalize hS:(s::Xs)++E=S at sl
  cases sl with
  | nil=>cases hS
  | cons q r=>
    rename_i A1 _ _ A2
    injection hT with h1 hT
    injection hS with h2 hS
    subst h1 h2 hT hS
    have len':xs.length=Xs.length:=by simpa using len
    have r:SAll (SlOk K F H σ) (List.map some xs++σ) (Xs++E) A2:=r
    obtain ⟨t,et⟩:∃t,E[i]? =some t:=⟨E[i],List.getElem?_eq_getElem hi⟩
    obtain ⟨o,C0,C1,C2,eA,eo,hp,put⟩:=r.at (k:=Xs.length+i) (s:=t) (by rw [List.getElem?_append_right (by omega)];simpa using et)
    have all:∀s'∈Xs++E,s'.isAl=false:=fun s' hs=>(List.mem_append.mp hs).elim (cx s') (pl s')
    have chg:∀(o:Option V) (s':Sl) (C:List Addr),s'.isAl=false→SlOk K F H σ o s' C→SlOk K F H (σ.set i (some v)) o s' C:=fun o s' C hc z=>by
      cases s' <;> first | exact z | cases hc
    have z:=put (SlOk K F H (σ.set i (some v))) (some v) s A1 (chg _ _ _ c q) fun o s' C hs _ z=>chg o s' C (all s' hs) z
    have e3:(Xs++E).set (Xs.length+i) s=Xs++E.set i s:=by
      rw [List.set_append_right _ _ (by omega),Nat.add_sub_cancel_left]
    have e2:(List.map some xs++σ).set (Xs.length+i) (some v)=List.map some xs++σ.set i (some v):=by
      rw [←len',List.set_append_right _ _ (by rw [List.length_map];omega),List.length_map,Nat.add_sub_cancel_left]
    rw [e2,e3] at z
    refine ⟨_,bf,fh,tf,z,?_,fun a ha=>fr a ?_,len',fun s' hs=>?_⟩
    · rw [eA] at nd
      have p:(C0++(A1++C2)).Perm (A1++(C0++C2)):=by
        rw [←List.append_assoc,←List.append_assoc]
        exact List.Perm.append_right _ List.perm_append_comm
      refine p.nodup_iff.mpr (List.Nodup.sublist ?_ nd)
      exact List.Sublist.append (List.Sublist.refl _) (List.Sublist.append (List.Sublist.refl _) (List.sublist_append_right _ _))
    · rw [eA]
      simp only [List.mem_append] at ha ⊢
      rcases ha with z | z | z
      · exact .inr (.inl z)
      · exact .inl z
      · exact .inr (.inr (.inr z))
    · rcases List.mem_or_eq_of_mem_set hs with hs | hs
      · exact pl s' hs
      · subst hs;exact c
end
end PL
namespace PL
open PySem L2 Nh
abbrev b7:=List Sl→Option (Sl×List Sl)
abbrev gO:=List Sl→Option (Bool×List Sl)
abbrev mN:=List Sl→Option (List Sl×List Sl)
abbrev iZ:=List Sl→Option (List PyData×List Sl)
inductive Fl where
  | nx | bk | ct | rt (r:Sl)
abbrev c9:=List Sl→Option (List Sl×Fl)
abbrev Calm (Xs:List Sl):Prop:=∀s∈Xs,s.isBr=false
abbrev Still (Xs:List Sl):Prop:=∀s∈Xs,s.isAl=false
theorem Still.calm {Xs:List Sl} (h:Still Xs):Calm Xs:=fun s hs=>by
  have:=h s hs
  cases s <;> simp [Sl.isAl,Sl.isBr] at this ⊢
theorem Still.nil {Xs:List Sl} (h:Xs=[]):Still Xs:=fun s hs=>by subst h;cases hs
theorem Calm.nil {Xs:List Sl} (h:Xs=[]):Calm Xs:=(Still.nil h).calm
theorem Calm.cons {Xs:List Sl} {s:Sl} (h:Calm Xs) (hs:s.isBr=false):Calm (s::Xs):=fun t ht=>(List.mem_cons.mp ht).elim (fun e=>e▸hs) (h t)
def rd (K:PySem.W.Frag) (m:Bool) (f:b7):TE:=fun σ H Q=>∃B E xs Xs r E',Frm K B σ H E xs Xs∧(m=true→Calm Xs)∧f E=some (r,E')∧∀v H',Frm K B σ H' E' (v::xs) (r::Xs)→Q v H'
def rt (K:PySem.W.Frag) (m:Bool) (f:gO):TT:=fun σ H Q=>∃B E xs Xs b E',Frm K B σ H E xs Xs∧(m=true→Calm Xs)∧f E=some (b,E')∧∀H',Frm K B σ H' E' xs Xs→Q b H'
def ra (K:PySem.W.Frag) (m:Bool) (f:mN):TA:=fun σ H Q=>∃B E xs Xs rs E',Frm K B σ H E xs Xs∧(m=true→Calm Xs)∧f E=some (rs,E')∧∀vs H',vs.length=rs.length→Frm K B σ H' E' (vs.reverse++xs) (rs.reverse++Xs)→Q vs H'
def Bv (K:PySem.W.Frag) (m:Bool) (f:iZ):TA:=fun σ H Q=>∃B E xs Xs ds E',Frm K B σ H E xs Xs∧(m=true→Calm Xs)∧f E=some (ds,E')∧∀vs H',vs.length=ds.length→Frm K B σ H' E' (vs.reverse++xs) (ds.reverse.map .sh++Xs)→Q vs H'
def rs (K:PySem.W.Frag) (g:c9):TS:=fun D σ H=>∃B E xs Xs E' fl,Frm K B σ H E xs Xs∧Xs=[]∧g E=some (E',fl)∧match fl with
  | .nx=>∀σ' H',Frm K B σ' H' E' xs Xs→D.nx σ' H'
  | .bk=>∀σ' H',Frm K B σ' H' E' xs Xs→D.bk σ' H'
  | .ct=>∀σ' H',Frm K B σ' H' E' xs Xs→D.ct σ' H'
  | .rt r=>∀σ' v H',Frm K B σ' H' E' (v::xs) (r::Xs)→D.rt v H'
def EX (X:Cx) (e:Expr) (m:Bool) (f:b7):Prop:=PE X e (rd X.K m f)
def TX (X:Cx) (e:Expr) (m:Bool) (f:gO):Prop:=PT X e (rt X.K m f)
def WX (X:Cx) (e:Expr) (m:Bool) (f:gO):Prop:=PW X e (rt X.K m f)
def AX (X:Cx) (es:List Expr) (m:Bool) (f:mN):Prop:=PA X es (ra X.K m f)
def DX (X:Cx) (es:List Expr) (m:Bool) (f:iZ):Prop:=PA X es (Bv X.K m f)
def SX (X:Cx) (s:Stmt) (g:c9):Prop:=PS X s (rs X.K g)
def vi (X:Cx) (s:List Stmt) (g:c9):Prop:=PSs X s (rs X.K g)
section
variable {X:Cx}
theorem bY {e:Expr} {t t':TE} (h:PE X e t) (k:∀σ H Q,t' σ H Q→t σ H Q):PE X e t':=fun pins s σ H Q I q=>h pins s σ H Q I (k σ H Q q)
theorem lP {e:Expr} {t t':TT} (h:PT X e t) (k:∀σ H Q,t' σ H Q→t σ H Q):PT X e t':=fun pins s σ H Q I q=>h pins s σ H Q I (k σ H Q q)
theorem tN {e:Expr} {t t':TT} (h:PW X e t) (k:∀σ H Q,t' σ H Q→t σ H Q):PW X e t':=fun whole pins s σ H Q I q=>h whole pins s σ H Q I (k σ H Q q)
theorem lQ {es:List Expr} {t t':TA} (h:PA X es t) (k:∀σ H Q,t' σ H Q→t σ H Q):PA X es t':=fun pos pins s σ H Q I q=>h pos pins s σ H Q I (k σ H Q q)
theorem gc {st:Stmt} {t t':TS} (h:PS X st t) (k:∀D σ H,t' D σ H→t D σ H):PS X st t':=fun pins s σ H D I q=>h pins s σ H D I (k D σ H q)
theorem qf {st:List Stmt} {t t':TS} (h:PSs X st t) (k:∀D σ H,t' D σ H→t D σ H):PSs X st t':=fun pins s σ H D I q=>h pins s σ H D I (k D σ H q)
end
def wQ:PyData→Option V
  | .none=>some .non
  | .bool b=>some (.bl b)
  | .int i=>some (.int i)
  | .str x=>some (.str x)
  | _=>none
theorem jH {K:PySem.W.Frag} {H:Hp} {d:PyData} {v:V} (h:wQ d=some v):Rp K H v d:=by
  cases d <;> simp [wQ] at h <;> subst h <;> constructor
def ab (i:Nat):b7:=fun E=>match E[i]? with
  | some (.sh d)=>some (.sh d,E)
  | some (.ow _)=>some (.al i,E)
  | some (.od _)=>some (.al i,E)
  | some (.tx _)=>some (.al i,E)
  | _=>none
def pC (d:PyData):b7:=fun E=>some (.sh d,E)
section
variable {X:Cx} {K:PySem.W.Frag}
theorem aa (i:Nat) {x:Str} {pos:Pos} (hN:X.N[i]? =some x:=by rfl) (hv:xt X.env.scope x:=by first | exact Or.inl rfl | exact Or.inr (Or.inl rfl) | exact Or.inr (Or.inr rfl)) (hd:(x == ("__debug__":Str))=false:=by decide)
    (hcd:(x == ("__classdict__":Str))=false:=by decide):EX X (.Name x pos) false (ab i):=by
  refine bY (jw hN hv hd hcd) fun σ H Q h=>?_
  obtain ⟨B,E,xs,Xs,r,E',⟨F,A,fr⟩,_,e,q⟩:=h
  unfold ab at e
  split at e
  · rename_i d ei
    cases e
    obtain ⟨o,A1,eo,rfl,v,rfl,rp⟩:=fr.var ei
    exact ⟨v,eo,q v H ⟨F,A,fr.push ⟨rfl,v,rfl,rp⟩⟩⟩
  · rename_i ds ei
    cases e
    obtain ⟨o,A1,eo,l,vs,rfl,_⟩:=fr.var ei
    exact ⟨_,eo,q _ H ⟨F,A,fr.push ⟨rfl,_,rfl,eo⟩⟩⟩
  · rename_i ds ei
    cases e
    obtain ⟨o,A1,eo,l,vs,A2,rfl,_⟩:=fr.var ei
    exact ⟨_,eo,q _ H ⟨F,A,fr.push ⟨rfl,_,rfl,eo⟩⟩⟩
  · rename_i ds ei
    cases e
    obtain ⟨o,A1,eo,l,vs,rfl,_⟩:=fr.var ei
    exact ⟨_,eo,q _ H ⟨F,A,fr.push ⟨rfl,_,rfl,eo⟩⟩⟩
  · cases e
theorem xZ {e:Expr} {v:V} (d:PyData) (h:PE X e (tC v)) (hd:wQ d=some v:=by rfl):EX X e false (pC d):=by
  refine bY h fun σ H Q h=>?_
  obtain ⟨B,E,xs,Xs,r,E',⟨F,A,fr⟩,_,e,q⟩:=h
  cases e
  exact q v H ⟨F,A,fr.push ⟨rfl,v,rfl,jH hd⟩⟩
theorem ag {i j pos}:EX X (.Constant (.int i) j pos) false (pC (.int i)):=xZ _ eu
theorem m8 {b j pos}:EX X (.Constant (.bool b) j pos) false (pC (.bool b)):=xZ _ za
theorem iB {x j pos}:EX X (.Constant (.str x) j pos) false (pC (.str x)):=xZ _ sS
end
abbrev P2:=List Sl→Sl→Sl→Option (Sl×List Sl)
def gd (K:PySem.W.Frag) (r:R2) (p:P2):Prop:=∀{B F:Hp} {A:List Addr} {σ:Sg} {H:Hp} {E:List Sl} {xs:List V} {Xs:List Sl} {v1 v2:V} {s1 s2 res:Sl} {E':List Sl} {Q:VK},
  FrF K B F A σ H E (v2::v1::xs) (s2::s1::Xs)→p E s1 s2=some (res,E')→(∀v H',Frm K B σ H' E' (v::xs) (res::Xs)→Q v H')→r v1 v2 H Q
def af (p:P2) (m2:Bool) (f g:b7):b7:=fun E=>(f E).bind fun a=>if m2&&a.1.isBr then none else (g a.2).bind fun b=>p b.2 a.1 b.1
theorem lR {K:PySem.W.Frag} {r:R2} {p:P2} (hp:gd K r p) {m1 m2:Bool} {f g:b7} {σ:Sg} {H:Hp} {Q:VK} (h:rd K (m1||m2) (af p m2 f g) σ H Q):ly r (rd K m1 f) (rd K m2 g) σ H Q:=by
  obtain ⟨B,E,xs,Xs,res,E',fr,c,e,q⟩:=h
  obtain ⟨⟨s1,E1⟩,e1,e⟩:=Option.bind_eq_some_iff.mp e
  by_cases hb:(m2&&s1.isBr)=true
  · rw [if_pos hb] at e;cases e
  rw [if_neg hb] at e
  obtain ⟨⟨s2,E2⟩,e2,e⟩:=Option.bind_eq_some_iff.mp e
  refine ⟨B,E,xs,Xs,s1,E1,fr,fun z=>c (by simp [z]),e1,fun v1 H1 fr1=>?_⟩
  refine ⟨B,E1,v1::xs,s1::Xs,s2,E2,fr1,fun z=>?_,e2,fun v2 H2 fr2=>?_⟩
  · refine Calm.cons (c (by simp [z])) ?_
    cases hs:s1.isBr with
    | false=>rfl
    | true=>exact absurd (by simp [z,hs]) hb
  · obtain ⟨F,A,fr2⟩:=fr2
    exact hp fr2 e q
def dt (op:PyData→PyData→Option PyData):P2:=fun E s1 s2=>(look E s1).bind fun d1=>(look E s2).bind fun d2=>(op d1 d2).map fun d=>(.sh d,E)
theorem FrF.res2 {K:PySem.W.Frag} {B F:Hp} {A:List Addr} {σ:Sg} {H:Hp} {E:List Sl} {xs:List V} {Xs:List Sl} {v1 v2 v:V} {s1 s2 s:Sl} (h:FrF K B F A σ H E (v2::v1::xs) (s2::s1::Xs)) (q:SlOk K F H σ (some v) s []):Frm K B σ H E (v::xs) (s::Xs):=by
  obtain ⟨A1,h⟩:=h.pop
  obtain ⟨A2,h⟩:=h.pop
  exact ⟨F,A2,h.push q⟩
theorem iC {K:PySem.W.Frag} {r:R2} {op:PyData→PyData→Option PyData} (h:∀(d1 d2 d:PyData) (v1 v2:V) (H:Hp) (Q:VK),op d1 d2=some d→Rp K H v1 d1→Rp K H v2 d2→∃v,wQ d=some v∧(Q v H→r v1 v2 H Q)):gd K r (dt op):=by
  intro B F A σ H E xs Xs v1 v2 s1 s2 res E' Q fr e q
  obtain ⟨d1,e1,e⟩:=Option.bind_eq_some_iff.mp e
  obtain ⟨d2,e2,e⟩:=Option.bind_eq_some_iff.mp e
  obtain ⟨d,e3,e⟩:=Option.map_eq_some_iff.mp e
  cases e
  obtain ⟨v,hv,k⟩:=h d1 d2 d v1 v2 H Q e3 (fr.look1 e1).1 (fr.look0 e2).1
  exact k (q v H (fr.res2 ⟨rfl,v,rfl,jH hv⟩))
section
variable {X:Cx} {a b:Expr} {m1 m2:Bool} {f g:b7} {pos:Pos}
theorem kJ {op:Operator} {r:R2} {p:P2} (ho:OpR X (binaryOp op) r) (hp:gd X.K r p) (ha:EX X a m1 f) (hb:EX X b m2 g):EX X (.BinOp a op b pos) (m1||m2) (af p m2 f g):=bY (fw ho ha hb) fun _ _ _ h=>lR hp h
theorem x8 {op:CmpOp} {r:R2} {p:P2} (ho:OpR X (compareOp op) r) (hp:gd X.K r p) (ha:EX X a m1 f) (hb:EX X b m2 g) (hm:behindInMarks op b=false):EX X (.Compare a [op] [b] pos) (m1||m2) (af p m2 f g):=bY (vv ho ha hb hm) fun _ _ _ h=>lR hp h
def cZ (f:b7):gO:=fun E=>(f E).bind fun a=>match a.1 with
  | .sh (.bool b)=>some (b,a.2)
  | _=>none
theorem tO {K:PySem.W.Frag} {m:Bool} {f:b7} {σ:Sg} {H:Hp} {Q:Bool→Hp→Prop} (h:rt K m (cZ f) σ H Q):rd K m f σ H (fun x H'=>∃k,x= .bl k∧Q k H'):=by
  obtain ⟨B,E,xs,Xs,b,E',fr,c,e,q⟩:=h
  obtain ⟨⟨s,E1⟩,e1,e⟩:=Option.bind_eq_some_iff.mp e
  refine ⟨B,E,xs,Xs,s,E1,fr,c,e1,fun v H' ⟨F,A,fr'⟩=>?_⟩
  simp only at e
  split at e
  · cases e
    obtain ⟨r,_⟩:=fr'.look0 (d:= .bool b) rfl
    cases r
    obtain ⟨A',fr2⟩:=fr'.pop
    exact ⟨b,rfl,q H' ⟨F,A',fr2⟩⟩
  · cases e
theorem lS {op:CmpOp} {r:R2} {p:P2} (ho:OpR X (compareOp op) r) (hp:gd X.K r p) (ha:EX X a m1 f) (hb:EX X b m2 g) (hm:behindInMarks op b=false):TX X (.Compare a [op] [b] pos) (m1||m2) (cZ (af p m2 f g)):=by
  refine lP (lA ho ha hb hm) fun σ H Q h=>?_
  exact lR hp (tO h)
end
def oB:Int:=2 ^ 20000
def bN (i j:Int):Bool:=decide (-(2 ^ 64) < i∧i < 2 ^ 64)||decide (-(2 ^ 64) < j∧j < 2 ^ 64)||decide (-oB < i∧i < oB∧ -oB < j∧j < oB)
def eQ (j:Int):Bool:=decide (0 < j∧j < 2 ^ 200)
def gP (C:Int→Int→Bool) (g:Int→Int→PyData):PyData→PyData→Option PyData
  | .int i, .int j=>if C i j then some (g i j) else none
  | _,_=>none
abbrev yW (C:Int→Int→Bool) (g:Int→Int→V):R2:=rI (fun i j=>C i j=true) g
theorem lT {K:PySem.W.Frag} {C:Int→Int→Bool} {g:Int→Int→PyData} {g':Int→Int→V} (hg:∀i j,wQ (g i j)=some (g' i j)):gd K (yW C g') (dt (gP C g)):=by
  refine iC fun d1 d2 d v1 v2 H Q e r1 r2=>?_
  unfold gP at e
  split at e
  · split at e
    · cases e
      cases r1
      cases r2
      rename_i hC
      exact ⟨_,hg _ _,fun q=>⟨_,_,rfl,rfl,hC,q⟩⟩
    · cases e
  · cases e
section
variable {X:Cx}
theorem i3 {i:Int} (h1: -oB < i) (h2:i < oB):Builtin.Int.intBits i≤2 ^ 20:=by
  unfold oB at h1 h2
  have h:i.natAbs < 2 ^ 20000:=by
    have e:((2 ^ 20000:Nat):Int)=2 ^ 20000:=Int.natCast_pow 2 20000
    generalize (2 ^ 20000:Int)=z at h1 h2 e
    generalize (2 ^ 20000:Nat)=y at e ⊢
    omega
  unfold Builtin.Int.intBits
  split
  · exact Nat.zero_le _
  · rename_i hz
    have hz':i≠0:=by simpa using hz
    have:i.natAbs.log2 < 20000:=(Nat.log2_lt (by omega)).mpr h
    omega
theorem tP {i j:Int} (h:bN i j=true):PySem.IntMulOk i j:=by
  unfold bN at h
  simp only [Bool.or_eq_true,decide_eq_true_eq] at h
  rcases h with (h | h) | h
  · exact CMul.ok (.inl h)
  · exact CMul.ok (.inr h)
  · exact PySem.IntMulOk.of_bits (i3 h.1 h.2.1) (i3 h.2.2.1 h.2.2.2)
end
end PL
namespace PL
open PySem L2 Nh PyProof.Rows
abbrev iy:=L2.St
section
variable {X:Cx}
theorem OpR.or {f:Value→Value→Sem Value} {r r':R2} (h:OpR X f r) (h':OpR X f r'):OpR X f (fun x y H Q=>r x y H Q∨r' x y H Q):=by
  intro pins s σ H x y v u Q I rx ry q
  rcases q with q | q
  · exact h pins s σ H x y v u Q I rx ry q
  · exact h' pins s σ H x y v u Q I rx ry q
theorem OpR.imp {f:Value→Value→Sem Value} {r r':R2} (h:OpR X f r) (k:∀x y H Q,r' x y H Q→r x y H Q):OpR X f r':=fun pins s σ H x y v u Q I rx ry q=>h pins s σ H x y v u Q I rx ry (k _ _ _ _ q)
def wR (K:PySem.W.Frag):R2:=fun x y H Q=>∃l b xs zs,x= .ref l∧y= .ref b∧SqL K H l xs∧SqL K H b zs∧xs.length+zs.length≤sizeLine∧∀p,H p=none→Q (.ref p) (upd H p (.lst (xs++zs)))
theorem vK:OpR X (binaryOp .Add) (wR X.K):=by
  intro pins s σ H x y v u Q I rx ry h
  obtain ⟨l,b,xs,zs,rfl,rfl,hH,hB,hz,q⟩:=h
  cases rx
  cases ry
  obtain ⟨its,r,p1,z1⟩:=I.list hH
  obtain ⟨its2,r2,p2,z2⟩:=I.list hB
  obtain ⟨⟨cls,dd,data,sl⟩,ho,hc,n,hd⟩:=p1.isList
  obtain ⟨⟨cls2,dd2,data2,sl2⟩,ho2,hc2,n2,kF⟩:=p2.isList
  simp only at hc hd hc2 kF
  subst hc hd hc2 kF
  have l1:=r.length
  have l2:=r2.length
  refine concat_meets ⟨_,ho,rfl⟩ ⟨_,ho2,rfl⟩ noFill_list_add seq_list_add PySem.F.slot_list_add PySem.F.entry_list_add (PySem.F.args_list_add_2 _ _) (list_addW l b its.toArray its2.toArray n n2 dd dd2 sl sl2 (by simp only [List.size_toArray];omega)) ⟨ho,ho2,?_⟩
  have ea:its.toArray++its2.toArray=(its++its2).toArray:=by simp
  rw [ea]
  exact ⟨.ref _,_,I.lnew (t':=s.toks) (r.append r2) (by rw [List.length_append];omega),rfl,q _ I.fresh⟩
def wS (K:PySem.W.Frag):R2:=fun x y H Q=>∃l k xs,x= .ref l∧y= .int k∧SqL K H l xs∧ -(2 ^ 63)≤k∧k < 2 ^ 63∧xs.length*k.toNat≤sizeLine∧
  ∀p,H p=none→Q (.ref p) (upd H p (.lst (List.replicate k.toNat xs).flatten))
theorem vL:OpR X (binaryOp .Mult) (wS X.K):=by
  intro pins s σ H x y v u Q I rx ry h
  obtain ⟨l,k,xs,rfl,rfl,hH,h1,h2,hz,q⟩:=h
  cases rx
  obtain ⟨t,rfl⟩:=ry
  obtain ⟨its,r,p1,z1⟩:=I.list hH
  obtain ⟨⟨cls,d,data,sl⟩,ho,hcl,n,hd⟩:=p1.isList
  simp only at hcl hd
  subst hcl hd
  have l1:=r.length
  have hsz:its.toArray.size*k.toNat≤2 ^ 24:=by rw [List.size_toArray,←l1];exact hz
  refine wpAny_binaryOp_repeat_ref (T:="list") (U:="int") (by decide) ⟨_,ho,rfl⟩ (fun s'=>typeIs_int s' k t) noFill_list_mul F.fills_int_mul F.slot_int_rmul repeat_list F.slot_int_index.lookup
    (call_meets F.slot_int_rmul (typeIs_int s k t) F.entry_int_rmul (F.args_int_rmul_2 _ _) (lm_int_rmul_list_any k t l its.toArray n d sl)
      ⟨ho,rfl,⟨_,ho,rfl⟩,call_meets F.slot_list_mul ⟨_,ho,rfl⟩ F.entry_list_mul (F.args_list_mul_2 _ _)
        (lm_list_mul_any l its.toArray n d sl k t (by simp [Builtin.List.listFitsIndex];omega) (by omega) (by simp [Builtin.List.listTooLong,sizeLine];omega))
        ⟨ho,?_⟩⟩)
  rw [listMul_foldl_if]
  exact ⟨.ref _,_,I.lnew (t':=s.toks) (r.rep k.toNat) (by rw [vE,Nat.mul_comm];exact hz),rfl,q _ I.fresh⟩
end
def bh:P2:=fun E s1 s2=>(look E s1).bind fun d1=>(look E s2).bind fun d2=>match d1,d2 with
  | .int i, .int j=>some (.sh (.int (i+j)),E)
  | .str a, .str b=>if a.length+b.length≤1000000 then some (.sh (.str (a++b)),E) else none
  | .list a, .list b=>if decide (a.length+b.length≤1000000)&&(!df E s1||aO a)&&(!df E s2||aO b) then some (.ow (a++b),E) else none
  | _,_=>none
theorem small {n:Nat} (h:n≤1000000):n < sizeLine:=Nat.lt_of_le_of_lt h (by rw [sizeLine_eq];decide)
theorem dw {n:Nat} (h:n≤1000000):n≤sizeLine:=Nat.le_of_lt (small h)
section
variable {K:PySem.W.Frag} {B F:Hp} {A:List Addr} {σ:iy} {H:Hp} {E:List Sl} {xs:List V} {Xs:List Sl} {v:V} {s:Sl} {ds:List PyData}
theorem FrF.items {k:Nat} (h:FrF K B F A σ H E xs Xs) (e:Xs[k]? =some s) (q:PL.look E s=some (.list ds)) (c:(!df E s||aO ds)=true):∃a vs,xs[k]? =some (.ref a)∧SqL K H a vs∧RpA K F vs ds:=by
  obtain ⟨v,ev,r,f⟩:=h.look e q
  cases hh:df E s with
  | false=>
    obtain ⟨a,vs,rfl,h1,h2⟩:=f hh
    exact ⟨a,vs,ev,h1,h2⟩
  | true=>
    rw [hh] at c
    cases r with
    | lst h1 h2=>exact ⟨_,_,ev,h1,h.coldA h2 (by simpa using c)⟩
theorem FrF.res2l {v1 v2:V} {s1 s2:Sl} {vs:List V} (h:FrF K B F A σ H E (v2::v1::xs) (s2::s1::Xs)) (r:RpA K F vs ds) {p:Addr} (hp:H p=none):Frm K B σ (upd H p (.lst vs)) E (.ref p::xs) (.ow ds::Xs):=by
  obtain ⟨A1,h⟩:=h.pop
  obtain ⟨A2,h⟩:=h.pop
  exact ⟨F,_,h.newl r hp⟩
end
abbrev kK (K:PySem.W.Frag):R2:=fun x y H Q=>(∃i j,x= .int i∧y= .int j∧Q (.int (i+j)) H)∨(∃i j,x= .str i∧y= .str j∧i.length+j.length≤sizeLine∧Q (.str (i++j)) H)∨wR K x y H Q
theorem gB {X:Cx}:OpR X (binaryOp .Add) (kK X.K):=OpR.or oI (OpR.or oM vK)
theorem vM {K:PySem.W.Frag}:gd K (kK K) bh:=by
  intro B F A σ H E xs Xs v1 v2 s1 s2 res E' Q fr e q
  obtain ⟨d1,e1,e⟩:=Option.bind_eq_some_iff.mp e
  obtain ⟨d2,e2,e⟩:=Option.bind_eq_some_iff.mp e
  have r1:=(fr.look1 e1).1
  have r2:=(fr.look0 e2).1
  split at e
  · cases e;cases r1;cases r2
    exact .inl ⟨_,_,rfl,rfl,q _ _ (fr.res2 ⟨rfl,_,rfl, .int _⟩)⟩
  · split at e
    · rename_i hl
      cases e;cases r1;cases r2
      exact .inr (.inl ⟨_,_,rfl,rfl,dw hl,q _ _ (fr.res2 ⟨rfl,_,rfl, .str _⟩)⟩)
    · cases e
  · split at e
    · rename_i hc
      cases e
      simp only [Bool.and_eq_true,decide_eq_true_eq] at hc
      obtain ⟨a1,u1,x1,q1,i1⟩:=fr.items (k:=1) rfl e1 hc.1.2
      obtain ⟨a2,u2,x2,q2,i2⟩:=fr.items (k:=0) rfl e2 hc.2
      cases x1;cases x2
      have l1:=i1.len
      have l2:=i2.len
      exact .inr (.inr ⟨_,_,_,_,rfl,rfl,q1,q2,dw (by omega),fun p hp=>q _ _ (fr.res2l (i1.append i2) hp)⟩)
    · cases e
  · cases e
def cO:P2:=dt (gP (fun _ _=>true) fun i j=> .int (i - j))
def be:P2:=dt (gP (fun _ j=>eQ j) fun i j=> .int (i / j))
def bv:P2:=dt (gP (fun _ j=>decide (0 < j)) fun i j=> .int (i % j))
def jd:P2:=dt (gP (fun i j=>decide (0≤j∧j≤1000000∧ -(2 ^ 64) < i∧i < 2 ^ 64)) fun i j=> .int (i ^ j.toNat))
section
variable {X:Cx}
theorem vN:OpR X (binaryOp .Sub) (yW (fun _ _=>true) fun i j=> .int (i - j)):=OpR.imp lz fun x y H Q ⟨i,j,a,b,_,q⟩=>⟨i,j,a,b,q⟩
theorem tQ:OpR X (binaryOp .FloorDiv) (yW (fun _ j=>eQ j) fun i j=> .int (i / j)):=Al fun i j _ _ _ _ _ hc q=>by
  obtain ⟨h1,h2⟩:=of_decide_eq_true hc
  have h3:j.natAbs.log2 < 9000:=by
    have:j.natAbs < 2 ^ 200:=by omega
    have:=(Nat.log2_lt (n:=j.natAbs) (k:=200) (by omega)).mpr this
    omega
  exact floordiv_int (by omega) (by rw [Int.fdiv_eq_ediv_of_nonneg i (by omega)];exact q) (.inl (PyProof.noPylong_of_log2 h3))
theorem vO:OpR X (binaryOp .Mod) (yW (fun _ j=>decide (0 < j)) fun i j=> .int (i % j)):=OpR.imp xI fun x y H Q ⟨i,j,a,b,c,q⟩=>⟨i,j,a,b,of_decide_eq_true c,q⟩
theorem vP {i j:Int} (c:0≤j∧j≤1000000∧ -(2 ^ 64) < i∧i < 2 ^ 64):zf i j:=⟨c.1,c.2.1,by omega⟩
theorem vQ:OpR X (binaryOp .Pow) (yW (fun i j=>decide (0≤j∧j≤1000000∧ -(2 ^ 64) < i∧i < 2 ^ 64)) fun i j=> .int (i ^ j.toNat)):=OpR.imp xJ fun x y H Q ⟨i,j,a,b,c,q⟩=>⟨i,j,a,b,vP (of_decide_eq_true c),q⟩
end
def eZ:P2:=fun E s1 s2=>(look E s1).bind fun d1=>(look E s2).bind fun d2=>match d1,d2 with
  | .int i, .int j=>if bN i j then some (.sh (.int (i*j)),E) else none
  | .list a, .int k=>if decide (a.length*k.toNat≤1000000∧ -1000000≤k∧k≤1000000)&&(!df E s1||aO a) then some (.ow (List.replicate k.toNat a).flatten,E) else none
  | _,_=>none
abbrev tR (K:PySem.W.Frag):R2:=fun x y H Q=>yW bN (fun i j=> .int (i*j)) x y H Q∨wS K x y H Q
theorem qg {X:Cx}:OpR X (binaryOp .Mult) (tR X.K):=OpR.or (Al fun _ _ _ _ _ _ _ hc q=>mul_int q (tP hc)) vL
theorem vR {K:PySem.W.Frag}:gd K (tR K) eZ:=by
  intro B F A σ H E xs Xs v1 v2 s1 s2 res E' Q fr e q
  obtain ⟨d1,e1,e⟩:=Option.bind_eq_some_iff.mp e
  obtain ⟨d2,e2,e⟩:=Option.bind_eq_some_iff.mp e
  have r1:=(fr.look1 e1).1
  have r2:=(fr.look0 e2).1
  split at e
  · split at e
    · rename_i hm
      cases e;cases r1;cases r2
      exact .inl ⟨_,_,rfl,rfl,hm,q _ _ (fr.res2 ⟨rfl,_,rfl, .int _⟩)⟩
    · cases e
  · split at e
    · rename_i hc
      cases e
      simp only [Bool.and_eq_true,decide_eq_true_eq] at hc
      obtain ⟨a1,u1,x1,q1,i1⟩:=fr.items (k:=1) rfl e1 hc.2
      cases x1;cases r2
      have l1:=i1.len
      exact .inr ⟨_,_,_,rfl,rfl,q1,by omega,by omega,dw (by rw [l1];exact hc.1.1),fun p hp=>q _ _ (fr.res2l (i1.rep _) hp)⟩
    · cases e
  · cases e
section
variable {X:Cx} {a b:Expr} {m1 m2:Bool} {f g:b7} {pos:Pos}
theorem bx (ha:EX X a m1 f) (hb:EX X b m2 g):EX X (.BinOp a .Add b pos) (m1||m2) (af bh m2 f g):=kJ gB vM ha hb
theorem eC (ha:EX X a m1 f) (hb:EX X b m2 g):EX X (.BinOp a .Sub b pos) (m1||m2) (af cO m2 f g):=kJ vN (lT fun _ _=>rfl) ha hb
theorem eR (ha:EX X a m1 f) (hb:EX X b m2 g):EX X (.BinOp a .Mult b pos) (m1||m2) (af eZ m2 f g):=kJ qg vR ha hb
theorem cK (ha:EX X a m1 f) (hb:EX X b m2 g):EX X (.BinOp a .FloorDiv b pos) (m1||m2) (af be m2 f g):=kJ tQ (lT fun _ _=>rfl) ha hb
theorem bZ (ha:EX X a m1 f) (hb:EX X b m2 g):EX X (.BinOp a .Mod b pos) (m1||m2) (af bv m2 f g):=kJ vO (lT fun _ _=>rfl) ha hb
theorem lU (ha:EX X a m1 f) (hb:EX X b m2 g):EX X (.BinOp a .Pow b pos) (m1||m2) (af jd m2 f g):=kJ vQ (lT fun _ _=>rfl) ha hb
end
def AR (K:PySem.W.Frag) (r:V→Hp→VK→Prop) (op:PyData→Option PyData):Prop:=∀(d1 d:PyData) (v1:V) (H:Hp) (Q:VK),op d1=some d→Rp K H v1 d1→∃v,wQ d=some v∧(Q v H→r v1 H Q)
def jk (op:PyData→Option PyData) (f:b7):b7:=fun E=>(f E).bind fun a=>(look a.2 a.1).bind fun d1=>(op d1).map fun d=>(.sh d,a.2)
theorem zF {K:PySem.W.Frag} {r:V→Hp→VK→Prop} {op:PyData→Option PyData} (hp:AR K r op) {m:Bool} {f:b7} {σ:iy} {H:Hp} {Q:VK} (h:rd K m (jk op f) σ H Q):rd K m f σ H (fun x H1=>r x H1 Q):=by
  obtain ⟨B,E,xs,Xs,res,E',fr,c,e,q⟩:=h
  obtain ⟨⟨s1,E1⟩,e1,e⟩:=Option.bind_eq_some_iff.mp e
  obtain ⟨d1,e2,e⟩:=Option.bind_eq_some_iff.mp e
  obtain ⟨d,e3,e⟩:=Option.map_eq_some_iff.mp e
  cases e
  refine ⟨B,E,xs,Xs,s1,E1,fr,c,e1,fun v1 H1 ⟨F,A,fr1⟩=>?_⟩
  obtain ⟨v,hv,k⟩:=hp d1 d v1 H1 Q e3 (fr1.look0 e2).1
  obtain ⟨A',fr2⟩:=fr1.pop
  exact k (q v H1 ⟨F,A',fr2.push ⟨rfl,v,rfl,jH hv⟩⟩)
def gI:PyData→Option PyData
  | .int i=>some (.int (-i))
  | _=>none
section
variable {X:Cx} {a b c:Expr} {m1 m2 m3:Bool} {f g h:b7} {pos:Pos}
theorem oT (ha:EX X a m1 f):EX X (.UnaryOp .USub a pos) m1 (jk gI f):=bY (s_ oJ ha) fun σ H Q h=>zF (r:=rU fun i=> .int (-i)) (fun d1 d v1 H Q e r=>by
  cases d1 <;> simp [gI] at e
  cases e;cases r
  exact ⟨_,rfl,fun q=>⟨_,rfl,q⟩⟩) h
end
def vj (d1 d2:PyData):Option Bool:=match d1,d2 with
  | .int i, .int j=>some (decide (i=j))
  | .str a, .str b=>some (decide (a=b))
  | .bool a, .bool b=>some (decide (a=b))
  | .none, .none=>some true
  | .none, .str _=>some false
  | .str _, .none=>some false
  | d1,d2=>if SeqAt.shaped d1&&SeqAt.shaped d2 then some (PyData.eqv d1 d2) else none
def iz:P2:=dt fun d1 d2=>(vj d1 d2).map fun b=> .bool b
def kL:P2:=dt fun d1 d2=>(vj d1 d2).map fun b=> .bool (!b)
abbrev AS (K:PySem.W.Frag):R2:=fun x y H Q=>AF x y H Q∨zB K x y H Q
abbrev AT (K:PySem.W.Frag):R2:=fun x y H Q=>AG x y H Q∨zC K x y H Q
theorem tS {K:PySem.W.Frag} {H:Hp} {v1 v2:V} {d1 d2:PyData} {b:Bool} (e:vj d1 d2=some b) (r1:Rp K H v1 d1) (r2:Rp K H v2 d2):
    (xK v1 v2=true∧decide (v1=v2)=b)∨(DOf K H v1 d1∧DOf K H v2 d2∧SeqAt.shaped d1=true∧SeqAt.shaped d2=true∧PyData.eqv d1 d2=b):=by
  unfold vj at e
  split at e
  · cases e;cases r1;cases r2;exact .inl ⟨rfl,by simp⟩
  · cases e;cases r1;cases r2;exact .inl ⟨rfl,by simp⟩
  · cases e;cases r1;cases r2;exact .inl ⟨rfl,by simp⟩
  · cases e;cases r1;cases r2;exact .inl ⟨rfl,rfl⟩
  · cases e;cases r1;cases r2;exact .inl ⟨rfl,rfl⟩
  · cases e;cases r1;cases r2;exact .inl ⟨rfl,rfl⟩
  · split at e
    · rename_i hs
      cases e
      simp only [Bool.and_eq_true] at hs
      exact .inr ⟨r1.dof hs.1,r2.dof hs.2,hs.1,hs.2,rfl⟩
    · cases e
theorem x9 {K:PySem.W.Frag}:gd K (AS K) iz:=iC fun d1 d2 d v1 v2 H Q e r1 r2=>by
  obtain ⟨b,e',rfl⟩:=Option.map_eq_some_iff.mp e
  refine ⟨_,rfl,fun q=>?_⟩
  rcases tS e' r1 r2 with ⟨a,rfl⟩ | ⟨a1,a2,a3,a4,rfl⟩
  · exact .inl ⟨a,q⟩
  · exact .inr ⟨_,_,a1,a2,a3,a4,q⟩
theorem x_ {K:PySem.W.Frag}:gd K (AT K) kL:=iC fun d1 d2 d v1 v2 H Q e r1 r2=>by
  obtain ⟨b,e',rfl⟩:=Option.map_eq_some_iff.mp e
  refine ⟨_,rfl,fun q=>?_⟩
  rcases tS e' r1 r2 with ⟨a,rfl⟩ | ⟨a1,a2,a3,a4,rfl⟩
  · exact .inl ⟨a,q⟩
  · exact .inr ⟨_,_,a1,a2,a3,a4,q⟩
def rO (K:PySem.W.Frag) (r:R2) (op:PyData→PyData→Option PyData):Prop:=∀(d1 d2 d:PyData) (v1 v2:V) (H:Hp) (Q:VK),op d1 d2=some d→Rp K H v1 d1→Rp K H v2 d2→∃v,wQ d=some v∧(Q v H→r v1 v2 H Q)
def gf (op op':PyData→PyData→Option PyData) (m2 m3:Bool) (f g h:b7):b7:=fun E=>(f E).bind fun a=>if (m2||m3)&&a.1.isBr then none else (g a.2).bind fun b=>if m3&&b.1.isBr then none else
  (look b.2 a.1).bind fun d1=>(look b.2 b.1).bind fun d2=>match op d1 d2 with
    | some (.bool true)=>(h b.2).bind fun c=>(look c.2 b.1).bind fun d2=>(look c.2 c.1).bind fun d3=>(op' d2 d3).map fun d=>(.sh d,c.2)
    | some (.bool false)=>some (.sh (.bool false),b.2)
    | _=>none
section
variable {X:Cx} {a b c:Expr} {m1 m2 m3:Bool} {f g h:b7} {pos:Pos}
theorem jI (hu:X.A.units+64 < cLine) (ha:EX X a m1 f) (hb:EX X b m2 g):TX X (.Compare a [.Eq] [b] pos) (m1||m2) (cZ (af iz m2 f g)):=lS (OpR.or wN (xU hu)) x9 ha hb (jA _)
theorem kM (hu:X.A.units+64 < cLine) (ha:EX X a m1 f) (hb:EX X b m2 g):TX X (.Compare a [.NotEq] [b] pos) (m1||m2) (cZ (af kL m2 f g)):=lS (OpR.or wO (xV hu)) x_ ha hb (jA _)
theorem tT {K:PySem.W.Frag} {r r':R2} {op op':PyData→PyData→Option PyData} (k:rO K r op) (k':rO K r' op') {σ:iy} {H:Hp} {Q:VK} (z:rd K (m1||(m2||m3)) (gf op op' m2 m3 f g h) σ H Q):tm r r' (rd K m1 f) (rd K m2 g) (rd K m3 h) σ H Q:=by
  obtain ⟨B,E,xs,Xs,res,E',fr,cl,e,q⟩:=z
  obtain ⟨⟨s1,E1⟩,e1,e⟩:=Option.bind_eq_some_iff.mp e
  by_cases hb:((m2||m3)&&s1.isBr)=true
  · rw [if_pos hb] at e;cases e
  rw [if_neg hb] at e
  obtain ⟨⟨s2,E2⟩,e2,e⟩:=Option.bind_eq_some_iff.mp e
  by_cases hb2:(m3&&s2.isBr)=true
  · rw [if_pos hb2] at e;cases e
  rw [if_neg hb2] at e
  obtain ⟨d1,l1,e⟩:=Option.bind_eq_some_iff.mp e
  obtain ⟨d2,l2,e⟩:=Option.bind_eq_some_iff.mp e
  have n1:(m2||m3)=true→s1.isBr=false:=fun z=>by
    cases hs:s1.isBr with
    | false=>rfl
    | true=>exact absurd (by rw [z,hs];rfl) hb
  have n2:m3=true→s2.isBr=false:=fun z=>by
    cases hs:s2.isBr with
    | false=>rfl
    | true=>exact absurd (by rw [z,hs];rfl) hb2
  refine ⟨B,E,xs,Xs,s1,E1,fr,fun z=>cl (by simp [z]),e1,fun v1 H1 fr1=>?_⟩
  refine ⟨B,E1,v1::xs,s1::Xs,s2,E2,fr1,fun z=>Calm.cons (cl (by simp [z])) (n1 (by simp [z])),e2,fun v2 H2 ⟨F,A,fr2⟩=>?_⟩
  cases ho:op d1 d2 with
  | none=>rw [ho] at e;cases e
  | some d=>
    rw [ho] at e
    obtain ⟨v,hv,kk⟩:=k d1 d2 d v1 v2 H2 (fun z H3=>∃k,z= .bl k∧(if k=true then rd K m3 h σ H3 fun w' H4=>r' v2 w' H4 Q else Q (.bl false) H3)) ho (fr2.look1 l1).1 (fr2.look0 l2).1
    cases d with
    | bool t=>
      cases hv
      refine kk ⟨t,rfl,?_⟩
      cases t with
      | true=>
        rw [if_pos rfl]
        obtain ⟨⟨s3,E3⟩,e3,e⟩:=Option.bind_eq_some_iff.mp e
        obtain ⟨d2',l2',e⟩:=Option.bind_eq_some_iff.mp e
        obtain ⟨d3,l3,e⟩:=Option.bind_eq_some_iff.mp e
        obtain ⟨d,ho',e⟩:=Option.map_eq_some_iff.mp e
        cases e
        refine ⟨B,E2,v2::v1::xs,s2::s1::Xs,s3,E3,⟨F,A,fr2⟩,fun z=>Calm.cons (Calm.cons (cl (by simp [z])) (n1 (by simp [z]))) (n2 z),e3,fun v3 H3 ⟨F3,A3,fr3⟩=>?_⟩
        obtain ⟨v,hv,kk⟩:=k' d2' d3 d v2 v3 H3 Q ho' (fr3.look1 l2').1 (fr3.look0 l3).1
        obtain ⟨A4,fr4⟩:=fr3.pop
        exact kk (q v H3 (fr4.res2 ⟨rfl,v,rfl,jH hv⟩))
      | false=>
        rw [if_neg (by decide)]
        cases e
        exact q _ _ (fr2.res2 ⟨rfl,_,rfl, .bl _⟩)
    | none=>cases e
    | int i=>cases e
    | str x=>cases e
    | list xs=>cases e
    | tuple xs=>cases e
    | dict kvs=>cases e
end
end PL
namespace PL
open PySem L2 Nh
def gg (f g:gO):gO:=fun E=>(f E).bind fun a=>if a.1 then g a.2 else some (false,a.2)
def fZ (f g:gO):gO:=fun E=>(f E).bind fun a=>if a.1 then some (true,a.2) else g a.2
def gh (f:gO):gO:=fun E=>(f E).map fun a=>(!a.1,a.2)
def h6:PyData→Option Bool
  | .none=>some false
  | .bool b=>some b
  | .int i=>some (i != 0)
  | .str x=>if x.length≤1000000 then some ((x.length:Int) != 0) else none
  | .list xs=>some (!xs.isEmpty)
  | .tuple xs=>some (!xs.isEmpty)
  | .dict _=>none
def fJ (f:b7):gO:=fun E=>(f E).bind fun a=>match a.1 with
  | .al i=>match a.2[i]? with
    | some (.od kvs)=>some (!kvs.isEmpty,a.2)
    | some s=>(s.val.bind h6).map fun b=>(b,a.2)
    | none=>none
  | s=>(s.val.bind h6).map fun b=>(b,a.2)
section
variable {X:Cx} {a b c:Expr} {bO:List Expr} {m1 m2 m3:Bool} {f g h:b7} {t u:gO} {pos:Pos} {K:PySem.W.Frag}
theorem qh (ha:TX X a m1 t):WX X (.BoolOp .And [a] pos) m1 t:=vp ha
theorem jJ (ha:TX X a m1 t):WX X (.BoolOp .Or [a] pos) m1 t:=xv ha
theorem tU (ha:TX X a m1 t) (hb:WX X (.BoolOp .And (b::bO) pos) m2 u):WX X (.BoolOp .And (a::b::bO) pos) (m1||m2) (gg t u):=by
  refine tN (xw ha hb) fun σ H Q z=>?_
  obtain ⟨B,E,xs,Xs,res,E',fr,cl,e,q⟩:=z
  obtain ⟨⟨b1,E1⟩,e1,e⟩:=Option.bind_eq_some_iff.mp e
  refine ⟨B,E,xs,Xs,b1,E1,fr,fun z=>cl (by simp [z]),e1,fun H1 fr1=>?_⟩
  cases b1 with
  | true=>exact (if_pos rfl).mpr ⟨B,E1,xs,Xs,res,E',fr1,fun z=>cl (by simp [z]),e,q⟩
  | false=>cases e;exact (if_neg (by decide)).mpr (q _ fr1)
theorem jK (ha:TX X a m1 t) (hb:WX X (.BoolOp .Or (b::bO) pos) m2 u):WX X (.BoolOp .Or (a::b::bO) pos) (m1||m2) (fZ t u):=by
  refine tN (zb ha hb) fun σ H Q z=>?_
  obtain ⟨B,E,xs,Xs,res,E',fr,cl,e,q⟩:=z
  obtain ⟨⟨b1,E1⟩,e1,e⟩:=Option.bind_eq_some_iff.mp e
  refine ⟨B,E,xs,Xs,b1,E1,fr,fun z=>cl (by simp [z]),e1,fun H1 fr1=>?_⟩
  cases b1 with
  | true=>cases e;exact (if_pos rfl).mpr (q _ fr1)
  | false=>exact (if_neg (by decide)).mpr ⟨B,E1,xs,Xs,res,E',fr1,fun z=>cl (by simp [z]),e,q⟩
theorem oU (h:WX X a m1 t):TX X a m1 t:=PW.pt h
theorem jL (ha:TX X a m1 t):TX X (.UnaryOp .Not a pos) m1 (gh t):=by
  refine lP (xx ha) fun σ H Q z=>?_
  obtain ⟨B,E,xs,Xs,res,E',fr,cl,e,q⟩:=z
  obtain ⟨⟨b1,E1⟩,e1,e⟩:=Option.map_eq_some_iff.mp e
  cases e
  exact ⟨B,E,xs,Xs,b1,E1,fr,cl,e1,fun H1 fr1=>q _ fr1⟩
theorem ya {H:Hp} {v:V} {d:PyData} {b:Bool} (r:Rp K H v d) (e:h6 d=some b):tu K v H b:=by
  cases r with
  | non=>cases e;rfl
  | bl b=>cases e;rfl
  | int i=>cases e;rfl
  | str x=>
    simp only [h6] at e
    split at e
    · rename_i hl
      cases e
      exact ⟨dw hl,rfl⟩
    · cases e
  | lst h r=>cases e;exact .inl ⟨_,h,by cases r <;> rfl⟩
  | tup h r=>cases e;exact .inr (.inl ⟨_,h,by cases r <;> rfl⟩)
  | dct h r=>cases e
theorem gZ (ha:EX X a m1 f) (he:∀whole,isTrue a X.env whole=(do let v ←whole;standAt a.pos;holding [v] (truthy v)):=by exact fun _=>rfl):TX X a m1 (fJ f):=by
  refine lP (tw ha he) fun σ H Q z=>?_
  obtain ⟨B,E,xs,Xs,res,E',fr,cl,e,q⟩:=z
  obtain ⟨⟨s,E1⟩,e1,e⟩:=Option.bind_eq_some_iff.mp e
  refine ⟨B,E,xs,Xs,s,E1,fr,cl,e1,fun v1 H1 ⟨F,A,fr1⟩=>?_⟩
  have key:∀d,look E1 s=some d→(h6 d).map (fun b=>(b,E1))=some (res,E')→∃k,tu X.K v1 H1 k∧Q k H1:=fun d l e=>by
    obtain ⟨b,e',z⟩:=Option.map_eq_some_iff.mp e
    cases z
    obtain ⟨A',fr2⟩:=fr1.pop
    exact ⟨_,ya (fr1.look0 l).1 e',q _ ⟨F,A',fr2⟩⟩
  have kv:(s.val.bind h6).map (fun b=>(b,E1))=some (res,E')→(∀i,s≠ .al i)→∃k,tu X.K v1 H1 k∧Q k H1:=fun e na=>by
    obtain ⟨b,e',z⟩:=Option.map_eq_some_iff.mp e
    obtain ⟨d,e1,e2⟩:=Option.bind_eq_some_iff.mp e'
    refine key d ?_ (by rw [e2];exact congrArg some z)
    cases s <;> first | exact e1 | exact absurd rfl (na _)
  simp only at e
  split at e
  · rename_i i
    split at e
    · rename_i kvs ei
      cases e
      obtain ⟨v',A1,ev,rfl,w,ew,hw⟩:=fr1.ext (k:=0) rfl
      cases ev;cases ew
      obtain ⟨o,A1,eo,l,us,A2,rfl,_,hl,r⟩:=fr1.var ei
      rw [hw] at eo
      cases eo
      obtain ⟨A',fr2⟩:=fr1.pop
      exact ⟨_, .inr (.inr ⟨_,hl,by cases us <;> cases kvs <;> first | rfl | exact False.elim r⟩),q _ ⟨F,A',fr2⟩⟩
    · rename_i s' _ ei
      obtain ⟨b,e',z⟩:=Option.map_eq_some_iff.mp e
      obtain ⟨d,e1,e2⟩:=Option.bind_eq_some_iff.mp e'
      exact key d (by simp [look,ei,e1]) (by rw [e2];exact congrArg some z)
    · cases e
  · rename_i na
    exact kv e na
end
theorem tV {X:Cx} {a b c:Expr} {m1 m2 m3:Bool} {f g h:b7} {pos:Pos} {o1 o2:CmpOp} {r r':R2} {op op':PyData→PyData→Option PyData} (ho:OpR X (compareOp o1) r) (ho':OpR X (compareOp o2) r') (k:rO X.K r op) (k':rO X.K r' op') (ha:EX X a m1 f) (hb:EX X b m2 g) (hc:EX X c m3 h)
    (hm:lastMarks [o1,o2] [b,c]=false:=by with_unfolding_all rfl):TX X (.Compare a [o1,o2] [b,c] pos) (m1||(m2||m3)) (cZ (gf op op' m2 m3 f g h)):=lP (tp ho ho' ha hb hc hm) fun _ _ _ z=>tT k k' (tO z)
def aq:mN:=fun E=>some ([],E)
def ae (m2:Bool) (f:b7) (g:mN):mN:=fun E=>(f E).bind fun a=>if m2&&a.1.isBr then none else (g a.2).map fun b=>(a.1::b.1,b.2)
def aR:iZ:=fun E=>some ([],E)
def ar (f:b7) (g:iZ):iZ:=fun E=>(f E).bind fun a=>(frz a.2 a.1).bind fun b=>(g b.2).map fun c=>(b.1::c.1,c.2)
def c_ (f:iZ):b7:=fun E=>(f E).bind fun a=>if a.1.length≤1000000 then some (.sh (.tuple a.1),a.2) else none
def cP (f:iZ):b7:=fun E=>(f E).bind fun a=>if a.1.length≤1000000 then some (.ow a.1,a.2) else none
section
variable {X:Cx} {e:Expr} {es:List Expr} {m1 m2:Bool} {f:b7} {g:mN} {d:iZ} {pos:Pos} {K:PySem.W.Frag}
theorem aC:AX X [] false aq:=by
  refine lQ cw fun σ H Q z=>?_
  obtain ⟨B,E,xs,Xs,res,E',fr,cl,e,q⟩:=z
  cases e
  exact q [] H rfl fr
theorem ai (ha:EX X e m1 f) (hr:AX X es m2 g) (hs:starEach (e::es) X.env=(false,eval e X.env)::starEach es X.env:=by rfl):AX X (e::es) (m1||m2) (ae m2 f g):=by
  refine lQ (aK ha hr hs) fun σ H Q z=>?_
  obtain ⟨B,E,xs,Xs,res,E',fr,cl,e,q⟩:=z
  obtain ⟨⟨s,E1⟩,e1,e⟩:=Option.bind_eq_some_iff.mp e
  by_cases hb:(m2&&s.isBr)=true
  · rw [if_pos hb] at e;cases e
  rw [if_neg hb] at e
  obtain ⟨⟨rs,E2⟩,e2,e⟩:=Option.map_eq_some_iff.mp e
  cases e
  refine ⟨B,E,xs,Xs,s,E1,fr,fun z=>cl (by simp [z]),e1,fun v1 H1 fr1=>?_⟩
  refine ⟨B,E1,v1::xs,s::Xs,rs,E2,fr1,fun z=>Calm.cons (cl (by simp [z])) ?_,e2,fun vs H2 hl fr2=>?_⟩
  · cases hs:s.isBr with
    | false=>rfl
    | true=>exact absurd (by simp [z,hs]) hb
  · exact q (v1::vs) H2 (by simp [hl]) (by simpa using fr2)
theorem bC:DX X [] false aR:=by
  refine lQ cw fun σ H Q z=>?_
  obtain ⟨B,E,xs,Xs,res,E',fr,cl,e,q⟩:=z
  cases e
  exact q [] H rfl fr
theorem aL (ha:EX X e m1 f) (hr:DX X es m2 d) (hs:starEach (e::es) X.env=(false,eval e X.env)::starEach es X.env:=by rfl):DX X (e::es) (m1||m2) (ar f d):=by
  refine lQ (aK ha hr hs) fun σ H Q z=>?_
  obtain ⟨B,E,xs,Xs,res,E',fr,cl,e,q⟩:=z
  obtain ⟨⟨s,E1⟩,e1,e⟩:=Option.bind_eq_some_iff.mp e
  obtain ⟨⟨d1,E2⟩,e2,e⟩:=Option.bind_eq_some_iff.mp e
  obtain ⟨⟨rs,E3⟩,e3,e⟩:=Option.map_eq_some_iff.mp e
  cases e
  refine ⟨B,E,xs,Xs,s,E1,fr,fun z=>cl (by simp [z]),e1,fun v1 H1 ⟨F,A,fr1⟩=>?_⟩
  obtain ⟨F2,A2,fr2⟩:=fr1.frz0 e2
  refine ⟨B,E2,v1::xs, .sh d1::Xs,rs,E3,⟨F2,A2,fr2⟩,fun z=>Calm.cons (cl (by simp [z])) rfl,e3,fun vs H2 hl fr2=>?_⟩
  exact q (v1::vs) H2 (by simp [hl]) (by simpa using fr2)
theorem FrF.shsR {B F:Hp} {σ:iy} {H:Hp} {E:List Sl} {xs:List V} {Xs:List Sl}:∀{us:List V} {es:List PyData} {A:List Addr},us.length=es.length→FrF K B F A σ H E (us++xs) (es.map .sh++Xs)→RpA K F us es∧∃A',FrF K B F A' σ H E xs Xs
  | [],[],A,_,h=>⟨.nil,A,h⟩
  | u::us,e::es,A,hl,h=>by
    obtain ⟨v,A1,ev,rfl,w,ew,r⟩:=h.ext (k:=0) rfl
    cases ev;cases ew
    obtain ⟨A',h'⟩:=FrF.pop (xs:=us++xs) (Xs:=es.map .sh++Xs) h
    obtain ⟨r',q⟩:=FrF.shsR (by simpa using hl) h'
    exact ⟨.cons r r',q⟩
  | [],_::_,_,e,_=>by cases e
  | _::_,[],_,e,_=>by cases e
theorem FrF.shs {B F:Hp} {σ:iy} {H:Hp} {E:List Sl} {xs:List V} {Xs:List Sl} {us:List V} {es:List PyData} {A:List Addr} (hl:us.length=es.length) (h:FrF K B F A σ H E (us.reverse++xs) (es.reverse.map .sh++Xs)):RpA K F us es∧∃A',FrF K B F A' σ H E xs Xs:=by
  obtain ⟨r,q⟩:=FrF.shsR (by simpa using hl) h
  have:=r.rev
  rw [List.reverse_reverse,List.reverse_reverse] at this
  exact ⟨this,q⟩
theorem fK {x1} (h:DX X es m1 d):EX X (.Tuple es x1 pos) m1 (c_ d):=by
  refine bY (xM h) fun σ H Q z=>?_
  obtain ⟨B,E,xs,Xs,res,E',fr,cl,e,q⟩:=z
  obtain ⟨⟨ds,E1⟩,e1,e⟩:=Option.bind_eq_some_iff.mp e
  simp only at e
  split at e
  · rename_i hl
    cases e
    refine ⟨B,E,xs,Xs,ds,_,fr,cl,e1,fun vs H1 hv ⟨F,A,fr1⟩=>?_⟩
    obtain ⟨r,A',fr2⟩:=fr1.shs hv
    exact ⟨dw (by omega),fun p hp=>q _ _ ⟨_,_,fr2.newt r hp⟩⟩
  · cases e
theorem dM (h:DX X es m1 d):EX X (.List es pos) m1 (cP d):=by
  refine bY (tB h) fun σ H Q z=>?_
  obtain ⟨B,E,xs,Xs,res,E',fr,cl,e,q⟩:=z
  obtain ⟨⟨ds,E1⟩,e1,e⟩:=Option.bind_eq_some_iff.mp e
  simp only at e
  split at e
  · rename_i hl
    cases e
    refine ⟨B,E,xs,Xs,ds,_,fr,cl,e1,fun vs H1 hv ⟨F,A,fr1⟩=>?_⟩
    obtain ⟨r,A',fr2⟩:=fr1.shs hv
    exact ⟨dw (by omega),fun p hp=>q _ _ ⟨_,_,fr2.newl r hp⟩⟩
  · cases e
end
def oV (ds:List PyData) (lo hi:Option Int):List PyData:=(ds.drop (HT.jb ds.length 0 lo)).take (HT.jb ds.length ds.length hi - HT.jb ds.length 0 lo)
def dO:P2:=fun E s1 s2=>(look E s1).bind fun d1=>(look E s2).bind fun d2=>match d2 with
  | .int i=>match d1 with
    | .list ds=>(atI ds i).map fun d=>(if df E s1&& !cJ d then .br d else .sh d,E)
    | .tuple ds=>(atI ds i).map fun d=>(if df E s1&& !cJ d then .br d else .sh d,E)
    | .str z=>if z.length≤1000000 then (atI z.cps.toList i).map fun c=>(.sh (.str ⟨#[c]⟩),E) else none
    | _=>none
  | _=>none
section
variable {K:PySem.W.Frag} {H:Hp}
theorem RpA.atI {vs:List V} {ds:List PyData} {i:Int} {d:PyData} (h:RpA K H vs ds) (e:L2.atI ds i=some d):∃v,L2.atI vs i=some v∧Rp K H v d:=by
  unfold L2.atI at e ⊢
  obtain ⟨j,e1,e2⟩:=Option.bind_eq_some_iff.mp e
  obtain ⟨v,ev,r⟩:=h.get e2
  exact ⟨v,by rw [h.len,e1];exact ev,r⟩
theorem FrF.item {B F:Hp} {A:List Addr} {σ:iy} {E:List Sl} {xs:List V} {Xs:List Sl} {v1 v2 v:V} {s1 s2:Sl} {d:PyData} (fr:FrF K B F A σ H E (v2::v1::xs) (s2::s1::Xs)) (r:Rp K H v d) (f:df E s1=false→Rp K F v d):
    Frm K B σ H E (v::xs) ((if df E s1&& !cJ d then .br d else .sh d)::Xs):=by
  by_cases hc:(df E s1&& !cJ d)=true
  · rw [if_pos hc]
    exact fr.res2 ⟨rfl,v,rfl,r⟩
  · rw [if_neg hc]
    refine fr.res2 ⟨rfl,v,rfl,?_⟩
    cases hh:df E s1 with
    | false=>exact f hh
    | true=>
      rw [hh] at hc
      exact fr.cold r (by simpa using hc)
theorem yb:gd K (Bg K) dO:=by
  intro B F A σ H E xs Xs v1 v2 s1 s2 res E' Q fr e q
  obtain ⟨d1,e1,e⟩:=Option.bind_eq_some_iff.mp e
  obtain ⟨d2,e2,e⟩:=Option.bind_eq_some_iff.mp e
  obtain ⟨r1,f1⟩:=fr.look1 e1
  have r2:=(fr.look0 e2).1
  split at e
  · cases r2
    split at e
    · obtain ⟨d,ed,e⟩:=Option.map_eq_some_iff.mp e
      cases e
      cases hh:df E s1 with
      | false=>
        obtain ⟨a,vs,rfl,h1,h2⟩:=f1 hh
        obtain ⟨v,ev,rv⟩:=h2.atI ed
        have z:=fr.item (rv.same fr.fh) fun _=>rv
        rw [hh] at z q
        exact .inl ⟨_,_,_,v,rfl,rfl,h1,ev,q _ _ z⟩
      | true=>
        cases r1 with
        | lst h1 h2=>
          obtain ⟨v,ev,rv⟩:=h2.atI ed
          have z:=fr.item rv fun h=>absurd (hh.symm.trans h) (by decide)
          rw [hh] at z q
          exact .inl ⟨_,_,_,v,rfl,rfl,h1,ev,q _ _ z⟩
    · obtain ⟨d,ed,e⟩:=Option.map_eq_some_iff.mp e
      cases e
      cases hh:df E s1 with
      | false=>
        have h0:Rp K F v1 _:=f1 hh
        cases h0 with
        | tup h1 h2=>
          obtain ⟨v,ev,rv⟩:=h2.atI ed
          have z:=fr.item (rv.same fr.fh) fun _=>rv
          rw [hh] at z q
          exact .inr (.inl ⟨_,_,_,v,rfl,rfl,fr.fh.tup h1,ev,q _ _ z⟩)
      | true=>
        cases r1 with
        | tup h1 h2=>
          obtain ⟨v,ev,rv⟩:=h2.atI ed
          have z:=fr.item rv fun h=>absurd (hh.symm.trans h) (by decide)
          rw [hh] at z q
          exact .inr (.inl ⟨_,_,_,v,rfl,rfl,h1,ev,q _ _ z⟩)
    · split at e
      · rename_i hl
        obtain ⟨c,ec,e⟩:=Option.map_eq_some_iff.mp e
        cases e;cases r1
        exact .inr (.inr ⟨_,_,c,rfl,rfl,dw hl,ec,q _ _ (fr.res2 ⟨rfl,_,rfl, .str _⟩)⟩)
      · cases e
    · cases e
  · cases e
end
end PL
namespace L2
open PySem PySem.Spec PyProof.Rows
section
variable {κ:Type} [DecidableEq κ]
def fz (kvs:List (κ×V)) (k:κ):Option V:=(kvs.find? fun kv=>decide (kv.1=k)).map (·.2)
def f6 (kvs:List (κ×V)) (k:κ) (v:V):List (κ×V):=
  if (kvs.any fun kv=>decide (kv.1=k))=true then kvs.map (fun kv=>if kv.1=k then (kv.1,v) else kv) else kvs++[(k,v)]
def jM (kvs:List (κ×V)) (k:κ):List (κ×V):=kvs.filter fun kv=>decide (kv.1≠k)
theorem h7 {p:κ×V} {r:List (κ×V)} {k:κ} (e:p.1=k):fz (p::r) k=some p.2:=by simp [fz,List.find?_cons,e]
theorem h8 {p:κ×V} {r:List (κ×V)} {k:κ} (e:¬p.1=k):fz (p::r) k=fz r k:=by simp [fz,List.find?_cons,e]
theorem m9 (k:κ):∀kvs:List (κ×V),(kvs.any fun kv=>decide (kv.1=k))=(fz kvs k).isSome
  | []=>rfl
  | p::r=>by
    rw [List.any_cons]
    by_cases e:p.1=k
    · simp only [h7 e,decide_eq_true e,Bool.true_or,Option.isSome_some]
    · rw [h8 e,decide_eq_false e,Bool.false_or];exact m9 k r
theorem gi (kvs:List (κ×V)) (k:κ) (v:V):(f6 kvs k v).length≤kvs.length+1:=by
  unfold f6
  split
  · rw [List.length_map];omega
  · rw [List.length_append,List.length_cons,List.length_nil];omega
theorem RelO.isSome_eq {o:Option V} {u:Option Value} (r:RelO o u):o.isSome=u.isSome:=by
  cases o with
  | none=>cases u with
    | none=>rfl
    | some _=>exact (show False from r).elim
  | some _=>cases u with
    | none=>exact (show False from r).elim
    | some _=>rfl
theorem RelO.getD {o:Option V} {u:Option Value} {d:V} {d':Value} (r:RelO o u) (rd:RelV d d'):RelV (o.getD d) (u.getD d'):=by
  cases o with
  | none=>cases u with
    | none=>exact rd
    | some _=>exact (show False from r).elim
  | some _=>cases u with
    | none=>exact (show False from r).elim
    | some _=>exact r
theorem KV.val {kvs:List (κ×V)} {vs:List (κ×Value)} (r:KV kvs vs) (k:κ):RelO (fz kvs k) (valueAt vs k):=by
  unfold KV at r
  induction r with
  | nil=>exact True.intro
  | @cons p q ps qs h t ih=>
    obtain ⟨h1,h2⟩:=h
    by_cases e:p.1=k
    · have e':q.1=k:=h1.symm.trans e
      have b:valueAt (q::qs) k=some q.2:=by simp [valueAt,List.find?_cons,e']
      rw [h7 e,b];exact h2
    · have e':¬q.1=k:=fun z=>e (h1.trans z)
      have b:valueAt (q::qs) k=valueAt qs k:=by simp [valueAt,List.find?_cons,e']
      rw [h8 e,b];exact ih
theorem KV.any {kvs:List (κ×V)} {vs:List (κ×Value)} (r:KV kvs vs) (k:κ):(kvs.any fun kv=>decide (kv.1=k))=vs.any fun kv=>decide (kv.1=k):=by
  unfold KV at r
  induction r with
  | nil=>rfl
  | cons h t ih=>rw [List.any_cons,List.any_cons,ih,h.1]
theorem KV.repl {kvs:List (κ×V)} {vs:List (κ×Value)} (r:KV kvs vs) (k:κ) {y:V} {u:Value} (ry:RelV y u):
    KV (kvs.map fun kv=>if kv.1=k then (kv.1,y) else kv) (vs.map fun kv=>if kv.1=k then (kv.1,u) else kv):=by
  unfold KV at r ⊢
  induction r with
  | nil=>exact .nil
  | @cons p q ps qs h t ih=>
    rw [List.map_cons,List.map_cons]
    refine .cons ?_ ih
    obtain ⟨h1,h2⟩:=h
    by_cases e:p.1=k
    · rw [if_pos e,if_pos (h1.symm.trans e)];exact ⟨h1,ry⟩
    · rw [if_neg e,if_neg (fun z=>e (h1.trans z))];exact ⟨h1,h2⟩
theorem KV.put {kvs:List (κ×V)} {vs:List (κ×Value)} (r:KV kvs vs) (k:κ) {y:V} {u:Value} (ry:RelV y u):KV (f6 kvs k y) (stored vs k u):=by
  unfold f6 stored
  rw [r.any k]
  by_cases e:(vs.any fun kv=>decide (kv.1=k))=true
  · rw [if_pos e,if_pos e];exact r.repl k ry
  · rw [if_neg e,if_neg e];exact Paired.snoc r ⟨rfl,ry⟩
theorem KV.drop {kvs:List (κ×V)} {vs:List (κ×Value)} (r:KV kvs vs) (k:κ):KV (jM kvs k) (without vs k):=by
  unfold KV at r ⊢
  unfold jM without
  induction r with
  | nil=>exact .nil
  | @cons p q ps qs h t ih=>
    obtain ⟨h1,h2⟩:=h
    rw [List.filter_cons,List.filter_cons]
    by_cases e:p.1=k
    · have a:¬decide (p.1≠k)=true:=by simp [e]
      have b:¬decide (q.1≠k)=true:=by simp [h1.symm.trans e]
      rw [if_neg a,if_neg b];exact ih
    · have e':¬q.1=k:=fun z=>e (h1.trans z)
      have a:decide (p.1≠k)=true:=by simp [e]
      have b:decide (q.1≠k)=true:=by simp [e']
      rw [if_pos a,if_pos b];exact .cons ⟨h1,h2⟩ ih
theorem KV.keys {kvs:List (κ×V)} {vs:List (κ×Value)} (r:KV kvs vs):kvs.map (·.1)=vs.map (·.1):=by
  unfold KV at r
  induction r with
  | nil=>rfl
  | cons h t ih=>rw [List.map_cons,List.map_cons,ih,h.1]
theorem KV.length {kvs:List (κ×V)} {vs:List (κ×Value)} (r:KV kvs vs):kvs.length=vs.length:=Paired.length r
theorem tW (kvs:List (κ×V)) (k:κ):(jM kvs k).length≤kvs.length:=List.length_filter_le _ _
end
theorem kN {P:Program} {w:World} {k:bu} {u:Value} (r:RelV (kV k) u):(aP P w).is k u=true:=by
  cases k with
  | inl i=>obtain ⟨t,e⟩:=(show ∃t,u=Value.int i t from r);subst e;exact mP P w i t
  | inr x=>obtain ⟨t,e⟩:=(show ∃t,u=Value.str x t from r);subst e;exact mQ P w x t
theorem kO {P:Program} {w:World}:∀{ks:List bu} {us:List Value},Vals (ks.map kV) us→ItemsAre (aP P w) ks us
  | [],_,r=>by rw [List.map_nil] at r;cases r;exact .nil
  | k::ks,_,r=>by
    rw [List.map_cons] at r
    cases r with
    | cons h t=>exact .cons (kN h) (kO t)
abbrev KT (H:Hp):List (List bu×V)→List (List bu×Addr×Value)→Prop:=Paired fun p q=>p.1=q.1∧H q.2.1=some (.tup (p.1.map kV))∧RelV p.2 q.2.2
theorem KT.val {H:Hp} {kvs:List (List bu×V)} {xs:List (List bu×Addr×Value)} (r:KT H kvs xs) (k:List bu):RelO (fz kvs k) ((atKey xs k).map (·.2)):=by
  induction r with
  | nil=>exact True.intro
  | @cons p q ps qs h t ih=>
    obtain ⟨h1,_,h2⟩:=h
    by_cases e:p.1=k
    · have e':q.1=k:=h1.symm.trans e
      have b:atKey (q::qs) k=some q.2:=by simp [atKey,List.find?_cons,e']
      rw [h7 e,b];exact h2
    · have e':¬q.1=k:=fun z=>e (h1.trans z)
      have b:atKey (q::qs) k=atKey qs k:=by simp [atKey,List.find?_cons,e']
      rw [h8 e,b];exact ih
theorem KT.repl {H:Hp} {kvs:List (List bu×V)} {xs:List (List bu×Addr×Value)} (r:KT H kvs xs) (k:List bu) {y:V} {u:Value} (ry:RelV y u):
    KT H (kvs.map fun kv=>if kv.1=k then (kv.1,y) else kv) (xs.map (putAt k u)):=by
  induction r with
  | nil=>exact .nil
  | @cons p q ps qs h t ih=>
    rw [List.map_cons,List.map_cons]
    refine .cons ?_ ih
    obtain ⟨h1,h2,h3⟩:=h
    unfold putAt
    by_cases e:p.1=k
    · rw [if_pos e,if_pos (h1.symm.trans e)];exact ⟨h1,h2,ry⟩
    · rw [if_neg e,if_neg (fun z=>e (h1.trans z))];exact ⟨h1,h2,h3⟩
theorem KT.put {H:Hp} {kvs:List (List bu×V)} {xs:List (List bu×Addr×Value)} (r:KT H kvs xs) (k:List bu) {b:Addr} {y:V} {u:Value} (hb:H b=some (.tup (k.map kV))) (ry:RelV y u):
    KT H (f6 kvs k y) (storedH xs k b u):=by
  have e:(kvs.any fun kv=>decide (kv.1=k))=(atKey xs k).isSome:=by
    rw [m9,(r.val k).isSome_eq,Option.isSome_map]
  unfold f6 storedH
  rw [e]
  by_cases q:(atKey xs k).isSome=true
  · rw [if_pos q,if_pos q];exact r.repl k ry
  · rw [if_neg q,if_neg q];exact Paired.snoc r ⟨rfl,hb,ry⟩
theorem KT.keeps {H H':Hp} {kvs:List (List bu×V)} {xs:List (List bu×Addr×Value)} (r:KT H kvs xs) (ht:∀b ys,H b=some (.tup ys)→H' b=some (.tup ys)):KT H' kvs xs:=
  Paired.mapP r fun _ _ z=>⟨z.1,ht _ _ z.2.1,z.2.2⟩
section
variable {P:Program} {w:World} {H:Hp} {h:Heap} {a:Addr}
theorem wT {u:HO} (ok:HOk P w H h) (e:Rd H a u):ObjOk P w H h a u:=e.ok ok
theorem qi {kvs:List (bu×V)} (ok:HOk P w H h) (e:Rd H a (.dK kvs)):kvs.length≤sizeLine∧(a == sysModules)=false∧∃vs,KV kvs vs∧h.DictOf (aP P w) a vs:=
  show ObjOk P w H h a (.dK kvs) from wT ok e
theorem qj {kvs:List (bu×V)} (ok:HOk P w H h) (e:H a=some (.dK kvs)):kvs.length≤sizeLine∧(a == sysModules)=false∧∃vs,KV kvs vs∧h.DictOf (aP P w) a vs:=qi ok (.inl e)
theorem oW {ks:List bu} (ok:HOk P w H h) (e:H a=some (.tup (ks.map kV))):(tupleKind (aP P w)).is h ks a:=by
  obtain ⟨_,its,r,o,h1,h2,n,h3⟩:=(show ObjOk P w H h a (.tup (ks.map kV)) from ok a _ e)
  exact ⟨o,its.toArray,n,h1,h2,h3,by simpa using kO r⟩
theorem tX {kvs:List (List bu×V)} (ok:HOk P w H h) (e:Rd H a (.dT kvs)):kvs.length≤sizeLine∧(a == sysModules)=false∧
    ∃xs,KT H kvs xs∧h.DictOfH (tupleKind (aP P w)) a xs:=by
  obtain ⟨z,y,xs,r,o,es,ep,h1,h2,h3,h4,h5⟩:=(show ObjOk P w H h a (.dT kvs) from wT ok e)
  refine ⟨z,y,xs,r,o,es,ep,h1,h2,h3,h4,fun x hx=>?_,h5⟩
  have all:∀{l:List (List bu×V)} {m:List (List bu×Addr×Value)},KT H l m→∀x∈m,(tupleKind (aP P w)).is h x.1 x.2.1:=by
    intro l m q
    induction q with
    | nil=>intro x hx;exact nomatch hx
    | @cons p q ps qs hq t ih=>
      intro x hx
      rcases List.mem_cons.mp hx with e | hx
      · subst e
        exact oW ok (by rw [←hq.1];exact hq.2.1)
      · exact ih x hx
  exact all r x hx
theorem zG {kvs:List (List bu×V)} (ok:HOk P w H h) (e:H a=some (.dT kvs)):kvs.length≤sizeLine∧(a == sysModules)=false∧
    ∃xs,KT H kvs xs∧h.DictOfH (tupleKind (aP P w)) a xs:=tX ok (.inl e)
end
def DGet (H:Hp) (a:Addr) (y:V) (r:Option V):Prop:=
  (∃kvs k,Rd H a (.dK kvs)∧y=kV k∧r=fz kvs k)∨∃kvs k b,Rd H a (.dT kvs)∧y= .ref b∧H b=some (.tup (k.map kV))∧r=fz kvs k
def DPut (H:Hp) (a:Addr) (y v:V) (H':Hp):Prop:=
  (∃kvs k,H a=some (.dK kvs)∧y=kV k∧kvs.length < sizeLine∧H'=upd H a (.dK (f6 kvs k v)))∨
  ∃kvs k b,H a=some (.dT kvs)∧y= .ref b∧H b=some (.tup (k.map kV))∧kvs.length < sizeLine∧H'=upd H a (.dT (f6 kvs k v))
theorem DGet.k {H:Hp} {a:Addr} {kvs:List (bu×V)} {k:bu} (e:H a=some (.dK kvs)):DGet H a (kV k) (fz kvs k):= .inl ⟨kvs,k, .inl e,rfl,rfl⟩
theorem DGet.t {H:Hp} {a b:Addr} {kvs:List (List bu×V)} {k:List bu} (e:H a=some (.dT kvs)) (eb:H b=some (.tup (k.map kV))):DGet H a (.ref b) (fz kvs k):= .inr ⟨kvs,k,b, .inl e,rfl,eb,rfl⟩
theorem DPut.k {H:Hp} {a:Addr} {kvs:List (bu×V)} {k:bu} {v:V} (e:H a=some (.dK kvs)) (hl:kvs.length < sizeLine):DPut H a (kV k) v (upd H a (.dK (f6 kvs k v))):= .inl ⟨kvs,k,e,rfl,hl,rfl⟩
theorem DPut.t {H:Hp} {a b:Addr} {kvs:List (List bu×V)} {k:List bu} {v:V} (e:H a=some (.dT kvs)) (eb:H b=some (.tup (k.map kV))) (hl:kvs.length < sizeLine):
    DPut H a (.ref b) v (upd H a (.dT (f6 kvs k v))):= .inr ⟨kvs,k,b,e,rfl,eb,hl,rfl⟩
section
variable {X:Cx} {pins:List (Addr×Obj)} {σ:St} {H:Hp} {s:Shared} {a:Addr} {y v:V} {u r:Value} {o:Option V} {A:Around} {E:Value→Shared→Prop}
theorem Inv.big (I:Inv X pins σ H s):sysModules < s.heap.objs.size:=by
  have h:mainGlobals < s.heap.objs.size:=(I.mod.glob.keeps I.bk).lt
  exact Nat.lt_trans (by decide) h
theorem jl {h':Heap} {t':Nat} {ob:HO} (I:Inv X pins σ H s) (mu:y9 (H a)) (hs:Heap.SameBut a s.heap h') (he:∃q,h'.get? a=some q) (new:ObjOk X.prog X.w (upd H a ob) h' a ob):
    Inv X pins σ (upd H a ob) {s with heap:=h',toks:=t'}:=
  I.write (x:=a) (e:=a) mu (.inl rfl) (fun b q hb z=>(hs.2 b hb).trans z) he new
theorem oX {P:Program} {w:World} {H':Hp} {h':Heap} {kvs:List (bu×V)} {vs:List (bu×Value)} (z:kvs.length≤sizeLine) (hd:(a == sysModules)=false) (rel:KV kvs vs) (dd:h'.DictOf (aP P w) a vs):
    ObjOk P w H' h' a (.dK kvs):=⟨z,hd,vs,rel,dd⟩
theorem rP {H':Hp} {Q:Unit→Shared→Prop} (hu:A.units+1 < cLine) (I:Inv X pins σ H s) (g:DPut H a y v H') (ry:RelV y u) (rv:RelV v r) (h:∀s',Inv X pins σ H' s'→Q () s'):
    wpAny (model X.prog X.w) A (setItem (.ref a) u r) Q E s:=by
  rcases g with ⟨kvs,k,e,ey,l,eH⟩ | ⟨kvs,k,b,e,ey,eb,l,eH⟩
  · subst ey eH
    obtain ⟨z,hd,vs,rel,dd⟩:=qj I.hok e
    have hz:vs.length≤sizeLine:=by rw [←rel.length];exact z
    have hl:(f6 kvs k v).length≤sizeLine:=by have:=gi kvs k v;omega
    refine wpAny_setItem_pairs (hsz:=hz) (kN ry) dd fun h' dd' hs=>h _ ?_
    have he:∃q,h'.get? a=some q:=let ⟨q,_,_,hq,_⟩:=dd';⟨q,hq⟩
    exact jl I (by rw [e];exact True.intro) hs he (oX hl hd (rel.put k rv) dd')
  · subst ey eH
    cases (show u=Value.ref b from ry)
    obtain ⟨z,hd,xs,rel,dd⟩:=zG I.hok e
    have hz:xs.length≤sizeLine:=by rw [←Paired.length rel];exact z
    have hl:(f6 kvs k v).length≤sizeLine:=by have:=gi kvs k v;omega
    refine wpAny_setItem_heap (hsz:=hz) (tupleKind_room_in1 hu) (oW I.hok eb) dd fun h' dd' hs=>h _ ?_
    obtain ⟨q,es,ep,hq,h2,h3,h4,_,h5⟩:=dd'
    refine jl I (by rw [e];exact True.intro) hs ⟨q,hq⟩ ⟨hl,hd,_,(rel.put k eb rv).keeps fun c ys ec=>?_,q,es,ep,hq,h2,h3,h4,h5⟩
    rw [ao (sR ec e (fun z=>nomatch z))]
    exact ec
end
section
variable {X:Cx} {pins:List (Addr×Obj)} {σ:St} {H:Hp} {s:Shared} {a:Addr} {kvs:List (bu×V)} {k:bu} {u:Value} {A:Around} {E:Value→Shared→Prop}
theorem zH {v:V} {more:List Value} {Q:Value→Shared→Prop} (I:Inv X pins σ H s) (e:H a=some (.dK kvs)) (ry:RelV (kV k) u) (l:fz kvs k=some v) (hm:more=[]∨∃x,more=[x])
    (h:∀w' s',Inv X pins σ (upd H a (.dK (jM kvs k))) s'→RelV v w'→Q w' s'):wpAny (model X.prog X.w) A (call (.builtin "dict.pop") (.ref a::u::more)) Q E s:=by
  obtain ⟨z,hd,vs,rel,dd⟩:=qj I.hok e
  obtain ⟨w',hw,rw'⟩:=RelO.some_of (v:=v) (o:=valueAt vs k) (by rw [←l];exact rel.val k)
  have hp:(keyPart u).isSome=true:=by
    cases k with
    | inl i=>obtain ⟨t,q⟩:=(show ∃t,u=Value.int i t from ry);subst q;rfl
    | inr x=>obtain ⟨t,q⟩:=(show ∃t,u=Value.str x t from ry);subst q;rfl
  have ha:argsOk "dict.pop" ⟨.ref a::u::more,[]⟩:=by
    rcases hm with q | ⟨x,q⟩
    · subst q;exact PySem.F.args_dict_pop_2 _ _
    · subst q;exact PySem.F.args_dict_pop_3 _ _ _
  refine call_meetsIn PySem.F.slot_dict_pop dd.typeIs PySem.F.entry_dict_pop ha (meets_dict_pop_there (aP X.prog X.w) a (kN ry) more hm hp)
    ⟨vs,w',dd,by rw [←rel.length];exact z,hw,fun h' dd' hs=>h w' _ ?_ rw'⟩
  have he:∃q,h'.get? a=some q:=let ⟨q,_,_,hq,_⟩:=dd';⟨q,hq⟩
  exact jl I (by rw [e];exact True.intro) hs he (oX (Nat.le_trans (tW kvs k) z) hd (rel.drop k) dd')
theorem yc {r:Value} {Q:Value→Shared→Prop} (I:Inv X pins σ H s) (e:H a=some (.dK kvs)) (ry:RelV (kV k) u) (l:fz kvs k=none) (h:∀s',Inv X pins σ H s'→Q r s'):
    wpAny (model X.prog X.w) A (call (.builtin "dict.pop") [.ref a,u,r]) Q E s:=by
  obtain ⟨z,hd,vs,rel,dd⟩:=qj I.hok e
  have hn:valueAt vs k=none:=RelO.none_of (by rw [←l];exact rel.val k)
  have hp:(keyPart u).isSome=true:=by
    cases k with
    | inl i=>obtain ⟨t,q⟩:=(show ∃t,u=Value.int i t from ry);subst q;rfl
    | inr x=>obtain ⟨t,q⟩:=(show ∃t,u=Value.str x t from ry);subst q;rfl
  exact call_meetsIn PySem.F.slot_dict_pop dd.typeIs PySem.F.entry_dict_pop (PySem.F.args_dict_pop_3 _ _ _) (meets_dict_pop_default (aP X.prog X.w) a (kN ry) hd hp r) ⟨vs,dd,hn,h _ (I.tok _)⟩
end
def wU (td ty tv:TE):TS:=fun D σ H=>tv σ H fun v H1=>td σ H1 fun x H2=>ty σ H2 fun y H3=>∃a H4,x= .ref a∧DPut H3 a y v H4∧D.nx σ H4
section
variable {X:Cx} {o i e value:Expr} {pos pos' tpos:Pos} {td ty tv:TE}
theorem vS (hu:X.A.units+1 < cLine) (ho:PE X o td) (hi:PE X i ty) (hv:PE X value tv) (hs:swapsWith value (some (.Subscript o i pos')) pos.line X.env=pure false):
    PS X (.Assign [.Subscript o i pos'] value pos) (wU td ty tv):=by
  intro pins s σ H D I h
  refine wpAny_Assign_Subscript (bQ (hv pins s σ H _ I h) fun r s1 ⟨v,H1,I1,rv,q1⟩=>bQ (ho pins s1 σ H1 _ I1 q1) fun u s2 ⟨x,H2,I2,rx,q2⟩=>bQ (hi pins s2 σ H2 _ I2 q2) fun iv s3 ⟨y,H3,I3,ry,a,H4,ex,g,q3⟩=>?_) hs
  subst ex
  obtain rfl:u=Value.ref a:=rx
  exact rP hu I3 g ry rv fun s4 I4=>⟨σ,H4,I4,q3⟩
end
theorem m_ {P:Program} {w:World} {H:Hp} (h:Heap) (hb:sysModules < h.objs.size):ObjOk P w H (h.push {cls:= .type "dict",data:= .dict #[]}) h.objs.size (.dK []):=
  ⟨Nat.zero_le _,beq_eq_false_iff_ne.mpr (Ne.symm (Nat.ne_of_lt hb)),[], .nil,Heap.DictOf.new h⟩
def lV:TE:=fun _ H Q=>∀p,H p=none→Q (.ref p) (upd H p (.dK []))
section
variable {X:Cx} {pos:Pos}
theorem tY:PE X (.Dict [] [] pos) lV:=fun pins s σ H Q I h=>
  wpAny_Dict_empty ⟨.ref s.heap.objs.size,_,I.laid (a:=s.heap.objs.size) (o:= .dK []) (t':=s.toks) (fun _ _ q=>Heap.get?_push_of_some _ q) (Nat.le_refl _) (m_ s.heap I.big),rfl,h _ (I.hok.fresh (Nat.le_refl _))⟩
end
def oY:List (TE×TE)→St→Hp→(List (V×V)→Hp→Prop)→Prop
  | [],_,H,Q=>Q [] H
  | (tk,tv)::r,σ,H,Q=>tk σ H fun x H1=>tv σ H1 fun y H2=>oY r σ H2 fun ps H3=>Q ((x,y)::ps) H3
abbrev VV:List (V×V)→List (Value×Value)→Prop:=Paired fun p q=>RelV p.1 q.1∧RelV p.2 q.2
def An (X:Cx) (pos:Pos) (keys:List (Option Expr)) (values:List Expr) (trs:List (TE×TE)):Prop:=
  ∀(pins:List (Addr×Obj)) (s:Shared) (σ:St) (H:Hp) (Q:List (V×V)→Hp→Prop),Inv X pins σ H s→oY trs σ H Q→
    wpAny (model X.prog X.w) X.A (evalPairs (pairTrees keys values X.env pos)) (fun vs s'=>∃ps H',Inv X pins σ H' s'∧VV ps vs∧Q ps H') X.xe s
theorem vT {X:Cx} {pos:Pos}:An X pos [] [] []:=fun pins s σ H Q I h=>pairTrees_nil_walk ⟨[],H,I, .nil,h⟩
theorem tZ {X:Cx} {pos:Pos} {k v:Expr} {ks:List (Option Expr)} {vs:List Expr} {tk tv:TE} {trs:List (TE×TE)} (hk:PE X k tk) (hv:PE X v tv) (hr:An X pos ks vs trs):
    An X pos (some k::ks) (v::vs) ((tk,tv)::trs):=fun pins s σ H Q I h=>
  pairTrees_cons_walk (bQ (hk pins s σ H _ I h) fun u s1 ⟨x,H1,I1,rx,q1⟩=>bQ (hv pins s1 σ H1 _ I1 q1) fun w2 s2 ⟨y,H2,I2,ry,q2⟩=>
    bQ (hr pins s2 σ H2 _ I2 q2) fun ws s3 ⟨ps,H3,I3,rel,q3⟩=>⟨(x,y)::ps,H3,I3, .cons ⟨rx,ry⟩ rel,q3⟩)
def jN (kvs more:List (bu×V)):List (bu×V):=more.foldl (fun acc kv=>f6 acc kv.1 kv.2) kvs
theorem KV.merge:∀{more:List (bu×V)} {rs:List (bu×Value)} {kvs:List (bu×V)} {vs:List (bu×Value)},KV more rs→KV kvs vs→KV (jN kvs more) (merged vs rs):=by
  intro more rs kvs vs r
  unfold KV at r
  induction r generalizing kvs vs with
  | nil=>intro q;exact q
  | @cons p q ps qs h t ih=>
    intro r0
    have e:KV (f6 kvs p.1 p.2) (stored vs q.1 q.2):=by
      have:=r0.put p.1 h.2
      rw [←h.1];exact this
    exact ih e
theorem gQ:∀(more kvs:List (bu×V)),(jN kvs more).length≤kvs.length+more.length
  | [],kvs=>by show kvs.length≤kvs.length+0;omega
  | p::r,kvs=>by
    have h1:=gQ r (f6 kvs p.1 p.2)
    have h2:=gi kvs p.1 p.2
    show (jN (f6 kvs p.1 p.2) r).length≤_
    rw [List.length_cons];omega
theorem jO {P:Program} {w:World}:∀{kvs:List (bu×V)} {ws:List (Value×Value)},VV (kvs.map fun kv=>(kV kv.1,kv.2)) ws→∃rs,Carries (aP P w) ws rs∧KV kvs rs
  | [],_,r=>by rw [List.map_nil] at r;cases r;exact ⟨[],True.intro, .nil⟩
  | p::kvs,_,r=>by
    rw [List.map_cons] at r
    cases r with
    | @cons a b as bs h t=>
      obtain ⟨rs,c,q⟩:=jO (P:=P) (w:=w) t
      obtain ⟨b1,b2⟩:=b
      exact ⟨(p.1,b2)::rs,⟨kN h.1,rfl,c⟩, .cons ⟨rfl,h.2⟩ q⟩
def wV (trs:List (TE×TE)):TE:=fun σ H Q=>∀p,H p=none→oY trs σ (upd H p (.dK [])) fun ps H2=>H2 p=some (.dK [])∧∃kvs:List (bu×V),ps=kvs.map (fun kv=>(kV kv.1,kv.2))∧kvs.length≤15∧Q (.ref p) (upd H2 p (.dK (jN [] kvs)))
theorem vU {X:Cx} {pos:Pos} {keys:List (Option Expr)} {values:List Expr} {trs:List (TE×TE)} (h:An X pos keys values trs) (hall:keys.all (·.isSome)=true) (hl:keys.length=values.length) (h0:keys≠[])
    (h15:keys.length≤15):PE X (.Dict keys values pos) (wV trs):=by
  intro pins s σ H Q I q
  have hn:=I.hok.fresh (Nat.le_refl s.heap.objs.size)
  have I1:=I.laid (a:=s.heap.objs.size) (o:= .dK []) (h':=s.heap.push {cls:= .type "dict",data:= .dict #[]}) (t':=s.toks) (fun _ _ q=>Heap.get?_push_of_some _ q) (Nat.le_refl _) (m_ s.heap I.big)
  refine wpAny_Dict_walk (knd:=aP X.prog X.w) hall hl h0 h15 (bQ (h pins _ σ _ _ I1 (q _ hn)) fun ws s2 ⟨ps,H2,I2,rel,e,kvs,ep,lk,q2⟩=>?_)
  subst ep
  obtain ⟨rs,c,rk⟩:=jO (P:=X.prog) (w:=X.w) rel
  obtain ⟨z,hd,vs0,r0,dd⟩:=qj I2.hok e
  cases r0
  refine ⟨rs,c,dd,fun h' dd' hs=>⟨.ref s.heap.objs.size,_,?_,rfl,q2⟩⟩
  have hz:(jN [] kvs).length≤sizeLine:=by
    have h1:=gQ kvs []
    rw [List.length_nil] at h1
    rw [sizeLine_eq];omega
  have he:∃q,h'.get? s.heap.objs.size=some q:=let ⟨q,_,_,hq,_⟩:=dd';⟨q,hq⟩
  exact jl I2 (by rw [e];exact True.intro) hs he (oX hz hd (rk.merge .nil) dd')
structure M2 (X:Cx) (o:Expr) (m:Str) (apos:Pos) (e f:Expr) (cpos:Pos):Prop where
  base:attributeBase o m X.env (eval o X.env)=eval o X.env
  few:((backTo cpos (starEach [e,f] X.env)).all (fun x=> !x.1)&&(backToKw cpos (keywordEach [] X.env)).all (fun x=>x.1.isSome)
    &&decide (([e,f]:List Expr).length+([]:List Keyword).length+(if ([]:List Keyword).isEmpty then 0 else 1) < 30))=true
  line:(apos.endLine == cpos.line)=true
  trees:backTo cpos (starEach [e,f] X.env)=[(false,eval e X.env),(false,eval f X.env)]
def AU (H:Hp) (a:Addr):Prop:=(∃kvs,Rd H a (.dK kvs))∨∃kvs,Rd H a (.dT kvs)
theorem t0 {X:Cx} {pins:List (Addr×Obj)} {σ:St} {H:Hp} {s:Shared} {a:Addr} (I:Inv X pins σ H s) (d:AU H a):
    s.TypeIs (.ref a) "dict"∧(∀b,Value.ref a= .ref b→∃ob,s.heap.get? b=some ob∧ob.dict=none)∧(a == sysModules)=false:=by
  rcases d with ⟨kvs,e⟩ | ⟨kvs,e⟩
  · obtain ⟨_,hd,vs,_,dd⟩:=qi I.hok e
    refine ⟨dd.typeIs,fun b q=>?_,hd⟩
    cases q
    obtain ⟨ob,_,_,h1,h2,_⟩:=dd
    exact ⟨ob,h1,h2.2.1⟩
  · obtain ⟨_,hd,xs,_,dd⟩:=tX I.hok e
    refine ⟨dd.typeIs,fun b q=>?_,hd⟩
    cases q
    obtain ⟨ob,_,_,h1,h2,_⟩:=dd
    exact ⟨ob,h1,h2.2.1⟩
section
variable {X:Cx} {pins:List (Addr×Obj)} {σ:St} {H:Hp} {s:Shared} {a:Addr} {y d:V} {u r:Value} {o:Option V} {A:Around} {E:Value→Shared→Prop}
theorem yd {Q:Value→Shared→Prop} (hu:A.units+1 < cLine) (I:Inv X pins σ H s) (g:DGet H a y o) (ry:RelV y u) (rd:RelV d r) (h:∀w' s',Inv X pins σ H s'→RelV (o.getD d) w'→Q w' s'):
    wpAny (model X.prog X.w) A (call (.builtin "dict.get") [.ref a,u,r]) Q E s:=by
  rcases g with ⟨kvs,k,e,ey,l⟩ | ⟨kvs,k,b,e,ey,eb,l⟩
  · subst ey
    obtain ⟨z,hd,vs,rel,dd⟩:=qi I.hok e
    refine call_meetsIn PySem.F.slot_dict_get dd.typeIs PySem.F.entry_dict_get (PySem.F.args_dict_get_3 _ _ _) (meets_dict_get_default (aP X.prog X.w) a (kN ry) hd r) ⟨_,dd.mapOf,h _ _ (I.tok _) ?_⟩
    rw [l]
    exact (rel.val k).getD rd
  · subst ey
    cases (show u=Value.ref b from ry)
    obtain ⟨z,hd,xs,rel,dd⟩:=tX I.hok e
    refine call_meetsIn PySem.F.slot_dict_get dd.typeIs PySem.F.entry_dict_get (PySem.F.args_dict_get_3 _ _ _) (meetsH_dict_get_default (tupleKind (aP X.prog X.w)) a b hd r) ⟨tupleKind_room_in1 hu,k,xs,oW I.hok eb,dd,h _ _ (I.tok _) ?_⟩
    rw [l]
    exact (rel.val k).getD rd
end
def t5 (td ty tx:TE):TE:=fun σ H Q=>td σ H fun x H1=>∃a,x= .ref a∧AU H1 a∧ty σ H1 fun y H2=>tx σ H2 fun z H3=>∃o,DGet H3 a y o∧Q (o.getD z) H3
def t7 (td ty tx:TE):TE:=fun σ H Q=>td σ H fun x H1=>∃a,x= .ref a∧AU H1 a∧ty σ H1 fun y H2=>tx σ H2 fun z H3=>∃kvs k,H3 a=some (.dK kvs)∧y=kV k∧
  (∀v,fz kvs k=some v→Q v (upd H3 a (.dK (jM kvs k))))∧(fz kvs k=none→Q z H3)
section
variable {X:Cx} {o e f:Expr} {apos cpos:Pos} {td ty tx:TE}
theorem t8 (hu:X.A.units+1 < cLine) (ho:PE X o td) (he:PE X e ty) (hf:PE X f tx) (m:M2 X o "get" apos e f cpos):PE X (.Call (.Attribute o "get" apos) [e,f] [] cpos) (t5 td ty tx):=by
  intro pins s σ H Q I h
  refine wpAny_Call_method m.base m.few m.line PySem.F.plainAttrs_dict PySem.F.slot_dict_get PySem.F.type_dict_get (bQ (ho pins s σ H _ I h) fun u s1 ⟨x,H1,I1,rx,a,ex,d,q1⟩=>?_)
  subst ex
  obtain rfl:u=Value.ref a:=rx
  obtain ⟨t1,t2,_⟩:=t0 I1 d
  refine ⟨t1,t2,?_⟩
  rw [m.trees]
  refine Calls.callWith_builtin rfl (Calls.evalArgs_plain (Calls.spliced_cons (bQ (he pins s1 σ H1 _ I1 q1) fun iv s2 ⟨y,H2,I2,ry,q2⟩=>
    Calls.spliced_cons (bQ (hf pins s2 σ H2 _ I2 q2) fun fv s3 ⟨z,H3,I3,rz,ov,g,q3⟩=>Calls.spliced_nil ?_))))
  exact yd hu I3 g ry rz fun w' s4 I4 rw'=>⟨_,H3,I4,rw',q3⟩
theorem t9 (ho:PE X o td) (he:PE X e ty) (hf:PE X f tx) (m:M2 X o "pop" apos e f cpos):PE X (.Call (.Attribute o "pop" apos) [e,f] [] cpos) (t7 td ty tx):=by
  intro pins s σ H Q I h
  refine wpAny_Call_method m.base m.few m.line PySem.F.plainAttrs_dict PySem.F.slot_dict_pop PySem.F.type_dict_pop (bQ (ho pins s σ H _ I h) fun u s1 ⟨x,H1,I1,rx,a,ex,d,q1⟩=>?_)
  subst ex
  obtain rfl:u=Value.ref a:=rx
  obtain ⟨t1,t2,_⟩:=t0 I1 d
  refine ⟨t1,t2,?_⟩
  rw [m.trees]
  refine Calls.callWith_builtin rfl (Calls.evalArgs_plain (Calls.spliced_cons (bQ (he pins s1 σ H1 _ I1 q1) fun iv s2 ⟨y,H2,I2,ry,q2⟩=>
    Calls.spliced_cons (bQ (hf pins s2 σ H2 _ I2 q2) fun fv s3 ⟨z,H3,I3,rz,kvs,k,ea,ey,q3,q4⟩=>Calls.spliced_nil ?_))))
  subst ey
  cases l:fz kvs k with
  | some v=>exact zH I3 ea ry l (.inr ⟨fv,rfl⟩) fun w' s4 I4 rw'=>⟨v,_,I4,rw',q3 v l⟩
  | none=>exact yc I3 ea ry l fun s4 I4=>⟨z,H3,I4,rz,q4 l⟩
end
end L2
namespace PL
open PySem L2 Nh
theorem cq {X:Cx} {a b:Expr} {m1 m2:Bool} {f g:b7} {pos:Pos} (ha:EX X a m1 f) (hb:EX X b m2 g) (hs:p9 b:=by exact fun _ _=>rfl):EX X (.Subscript a b pos) (m1||m2) (af dO m2 f g):=bY (kC xP ha hb hs) fun _ _ _ h=>lR yb h
abbrev ye:=List Sl→Option (Option Int×List Sl)
def ro (K:PySem.W.Frag) (m:Bool) (f:ye):TO:=fun σ H Q=>∃B E xs Xs o E',Frm K B σ H E xs Xs∧(m=true→Calm Xs)∧f E=some (o,E')∧∀H',Frm K B σ H' E' xs Xs→Q o H'
def OX (X:Cx) (e:Option Expr) (m:Bool) (f:ye):Prop:=PO X e (ro X.K m f)
def e9:ye:=fun E=>some (none,E)
def dW (f:b7):ye:=fun E=>(f E).bind fun a=>match look a.2 a.1 with
  | some (.int i)=>some (some i,a.2)
  | _=>none
section
variable {X:Cx} {e:Expr} {lo hi:Option Expr} {m1 m2 m3:Bool} {f:b7} {g h:ye} {pos p2:Pos} {K:PySem.W.Frag}
theorem t_ {e:Option Expr} {t t':TO} (h:PO X e t) (k:∀σ H Q,t' σ H Q→t σ H Q):PO X e t':=fun pins s σ H Q I q=>h pins s σ H Q I (k σ H Q q)
theorem h9:OX X none false e9:=t_ vz fun σ H Q z=>by
  obtain ⟨B,E,xs,Xs,res,E',fr,cl,e,q⟩:=z
  cases e
  exact q _ fr
theorem fL (he:EX X e m1 f):OX X (some e) m1 (dW f):=t_ (vA he) fun σ H Q z=>by
  obtain ⟨B,E,xs,Xs,res,E',fr,cl,e,q⟩:=z
  obtain ⟨⟨s,E1⟩,e1,e⟩:=Option.bind_eq_some_iff.mp e
  refine ⟨B,E,xs,Xs,s,E1,fr,cl,e1,fun v1 H1 ⟨F,A,fr1⟩=>?_⟩
  simp only at e
  split at e
  · rename_i i l
    cases e
    have r:=(fr1.look0 l).1
    cases r
    obtain ⟨A',fr2⟩:=fr1.pop
    exact ⟨i,rfl,q _ ⟨F,A',fr2⟩⟩
  · cases e
theorem RpA.cut {F:Hp} {vs:List V} {ds:List PyData} (h:RpA K F vs ds) (lo hi:Option Int):RpA K F (rG vs lo hi) (oV ds lo hi):=by
  unfold rG oV
  rw [h.len]
  exact (h.drop _).take _
end
def aZ (E:List Sl):List Sl→Option (List PyData)
  | []=>some []
  | s::ss=>(look E s).bind fun d=>(aZ E ss).map fun ds=>d::ds
theorem lookA_iff {E:List Sl}:∀{ss:List Sl} {ds:List PyData},aZ E ss=some ds↔Paired (fun s d=>look E s=some d) ss ds
  | [],ds=>⟨fun h=>by cases h;exact .nil,fun h=>by cases h;rfl⟩
  | s::ss,ds=>by
    constructor
    · intro h
      obtain ⟨d,h1,h⟩:=Option.bind_eq_some_iff.mp h
      obtain ⟨es,h2,h⟩:=Option.map_eq_some_iff.mp h
      cases h
      exact .cons h1 (lookA_iff.mp h2)
    · intro h
      cases h with
      | cons h1 h2=>simp [aZ,h1,lookA_iff.mpr h2]
theorem rQ {E:List Sl} {ss:List Sl} {ds:List PyData} (h:aZ E ss=some ds):aZ E ss.reverse=some ds.reverse:=lookA_iff.mpr (gY (lookA_iff.mp h))
section
variable {X:Cx} {K:PySem.W.Frag} {B F:Hp} {σ:iy} {H:Hp} {E:List Sl} {xs:List V} {Xs:List Sl}
theorem FrF.looksR:∀{us:List V} {ts:List Sl} {es:List PyData} {A:List Addr},us.length=ts.length→FrF K B F A σ H E (us++xs) (ts++Xs)→aZ E ts=some es→RpA K H us es∧∃A',FrF K B F A' σ H E xs Xs
  | [],[],es,A,_,h,e=>by cases e;exact ⟨.nil,A,h⟩
  | u::us,t::ts,es,A,hl,h,e=>by
    obtain ⟨d,h1,e⟩:=Option.bind_eq_some_iff.mp e
    obtain ⟨es',h2,e⟩:=Option.map_eq_some_iff.mp e
    cases e
    have r:=(FrF.look0 (xs:=us++xs) (Xs:=ts++Xs) h h1).1
    obtain ⟨A',h'⟩:=FrF.pop (xs:=us++xs) (Xs:=ts++Xs) h
    obtain ⟨r',q⟩:=FrF.looksR (by simpa using hl) h' h2
    exact ⟨.cons r r',q⟩
  | [],_::_,_,_,e,_,_=>by cases e
  | _::_,[],_,_,e,_,_=>by cases e
theorem FrF.looks {us:List V} {ts:List Sl} {es:List PyData} {A:List Addr} (hl:us.length=ts.length) (h:FrF K B F A σ H E (us.reverse++xs) (ts.reverse++Xs)) (e:aZ E ts=some es):RpA K H us es∧∃A',FrF K B F A' σ H E xs Xs:=by
  obtain ⟨r,q⟩:=FrF.looksR (by simpa using hl) h (rQ e)
  have:=r.rev
  rw [List.reverse_reverse,List.reverse_reverse] at this
  exact ⟨this,q⟩
end
def vV (K:PySem.W.Frag) (r:List V→Hp→VK→Prop) (op:List PyData→Option PyData):Prop:=∀(ds:List PyData) (d:PyData) (vs:List V) (H:Hp) (Q:VK),op ds=some d→RpA K H vs ds→∃v,wQ d=some v∧(Q v H→r vs H Q)
def ck (op:List PyData→Option PyData) (g:mN):b7:=fun E=>(g E).bind fun a=>(aZ a.2 a.1).bind fun ds=>(op ds).map fun d=>(.sh d,a.2)
theorem ua {K:PySem.W.Frag} {r:List V→Hp→VK→Prop} {op:List PyData→Option PyData} (hp:vV K r op) {m:Bool} {g:mN} {σ:iy} {H:Hp} {Q:VK} (h:rd K m (ck op g) σ H Q):zo r (ra K m g) σ H Q:=by
  obtain ⟨B,E,xs,Xs,res,E',fr,cl,e,q⟩:=h
  obtain ⟨⟨rs,E1⟩,e1,e⟩:=Option.bind_eq_some_iff.mp e
  obtain ⟨ds,e2,e⟩:=Option.bind_eq_some_iff.mp e
  obtain ⟨d,e3,e⟩:=Option.map_eq_some_iff.mp e
  cases e
  refine ⟨B,E,xs,Xs,rs,E1,fr,cl,e1,fun vs H1 hl ⟨F,A,fr1⟩=>?_⟩
  obtain ⟨r1,A',fr2⟩:=fr1.looks hl e2
  obtain ⟨v,hv,k⟩:=hp ds d vs H1 Q e3 r1
  exact k (q v H1 ⟨F,A',fr2.push ⟨rfl,v,rfl,jH hv⟩⟩)
def dP:List PyData→Option PyData
  | [.list xs]=>some (.int xs.length)
  | [.tuple xs]=>some (.int xs.length)
  | [.str z]=>if z.length≤1000000 then some (.int z.length) else none
  | _=>none
def oZ:List PyData→Option PyData
  | [.int i]=>some (.int (if i < 0 then -i else i))
  | _=>none
theorem RpA.one {K:PySem.W.Frag} {H:Hp} {vs:List V} {d:PyData} (h:RpA K H vs [d]):∃v,vs=[v]∧Rp K H v d:=by
  cases h with
  | cons h t=>cases t;exact ⟨_,rfl,h⟩
theorem RpA.two {K:PySem.W.Frag} {H:Hp} {vs:List V} {d e:PyData} (h:RpA K H vs [d,e]):∃v u,vs=[v,u]∧Rp K H v d∧Rp K H u e:=by
  cases h with
  | cons h t=>
    obtain ⟨u,rfl,r⟩:=t.one
    exact ⟨_,_,rfl,h,r⟩
section
variable {X:Cx} {e:Expr} {es:List Expr} {m1:Bool} {g:mN} {p pos:Pos} {K:PySem.W.Frag}
abbrev zI (K:PySem.W.Frag):List V→Hp→VK→Prop:=fun xs H Q=>(∃p ys,xs=[.ref p]∧(SqL K H p ys∨SqT K H p ys)∧Q (.int ys.length) H)∨(∃z,xs=[.str z]∧z.length≤sizeLine∧Q (.int z.length) H)
theorem vW:vV K (zI K) dP:=fun ds d vs H Q e r=>by
  unfold dP at e
  split at e
  · cases e
    obtain ⟨v,rfl,r'⟩:=r.one
    cases r' with
    | lst h1 h2=>exact ⟨_,rfl,fun q=> .inl ⟨_,_,rfl, .inl h1,by rw [h2.len];exact q⟩⟩
  · cases e
    obtain ⟨v,rfl,r'⟩:=r.one
    cases r' with
    | tup h1 h2=>exact ⟨_,rfl,fun q=> .inl ⟨_,_,rfl, .inr h1,by rw [h2.len];exact q⟩⟩
  · split at e
    · rename_i hl
      cases e
      obtain ⟨v,rfl,r'⟩:=r.one
      cases r'
      exact ⟨_,rfl,fun q=> .inr ⟨_,rfl,dw hl,q⟩⟩
    · cases e
  · cases e
theorem ng {x:Str} {id:String} {r:List V→Hp→VK→Prop} {op:List PyData→Option PyData} (hp:vV X.K r op) (hc:CallR X (.builtin id) r) (hg:Gl X x) (hm:X.mg x=none) (hv:bootBuiltins x=some (.builtin id)) (ha:AX X (e::es) m1 g) (hn:x≠"__name__":=by decide) (hdb:(x == ("__debug__":Str))=false:=by decide)
    (he:starEach (e::es) X.env=(false,eval e X.env)::starEach es X.env:=by rfl) (hpl:(backTo pos (starEach es X.env)).any (·.1)=false:=by rfl):EX X (.Call (.Name x p) (e::es) [] pos) m1 (ck op g):=
  bY (f_ hc hg hm hv ha hn hdb he hpl) fun _ _ _ h=>ua hp h
theorem fj (hg:Gl X "len") (hm:X.mg "len"=none) (ha:AX X [e] m1 g) (he:starEach [e] X.env=[(false,eval e X.env)]:=by rfl):EX X (.Call (.Name "len" p) [e] [] pos) m1 (ck dP g):=ng vW (CallR.or hW lI) hg hm PySem.boot_len ha (by decide) (by decide) he rfl
theorem yf (hg:Gl X "abs") (hm:X.mg "abs"=none) (ha:AX X [e] m1 g) (he:starEach [e] X.env=[(false,eval e X.env)]:=by rfl):EX X (.Call (.Name "abs" p) [e] [] pos) m1 (ck oZ g):=ng (fun ds d vs H Q e r=>by
  unfold oZ at e
  split at e
  · cases e
    obtain ⟨v,rfl,r'⟩:=r.one
    cases r'
    exact ⟨_,rfl,fun q=>⟨_,rfl,q⟩⟩
  · cases e) tz hg hm PyProof.Rows.boot_abs ha (by decide) (by decide) he rfl
end
def fk (g:b7):b7:=fun E=>(g E).bind fun a=>match look a.2 a.1 with
  | some (.list ds)=>if !df a.2 a.1||aO ds then some (.ow ds,a.2) else none
  | some (.tuple ds)=>if !df a.2 a.1||aO ds then some (.ow ds,a.2) else none
  | _=>none
section
variable {X:Cx} {e:Expr} {m1:Bool} {f:b7} {p pos:Pos} {K:PySem.W.Frag}
theorem qk (hg:Gl X "list") (hm:X.mg "list"=none) (ha:EX X e m1 f) (he:starEach [e] X.env=[(false,eval e X.env)]:=by rfl):EX X (.Call (.Name "list" p) [e] [] pos) m1 (fk f):=by
  refine bY (kB lJ hg hm PyProof.Rows.boot_list (aK ha cw he) (by decide) (by decide) he rfl) fun σ H Q z=>?_
  obtain ⟨B,E,xs,Xs,res,E',fr,cl,e,q⟩:=z
  obtain ⟨⟨s,E1⟩,e1,e⟩:=Option.bind_eq_some_iff.mp e
  refine ⟨B,E,xs,Xs,s,E1,fr,cl,e1,fun v1 H1 ⟨F,A,fr1⟩=>?_⟩
  obtain ⟨A',fr2⟩:=fr1.pop
  simp only at e
  split at e
  · rename_i ds ld
    split at e
    · rename_i hc
      cases e
      obtain ⟨a,vs,ev,h1,h2⟩:=fr1.items (k:=0) rfl ld hc
      cases ev
      exact ⟨a,vs,rfl, .inl h1,fun l hl=>q _ _ ⟨F,_,fr2.newl h2 hl⟩⟩
    · cases e
  · rename_i ds ld
    split at e
    · rename_i hc
      cases e
      obtain ⟨r,f0⟩:=fr1.look0 ld
      cases hh:df E' s with
      | false=>
        have h0:Rp X.K F v1 _:=f0 hh
        cases h0 with
        | tup h1 h2=>exact ⟨_,_,rfl, .inr (fr1.fh.tup h1),fun l hl=>q _ _ ⟨F,_,fr2.newl h2 hl⟩⟩
      | true=>
        rw [hh] at hc
        cases r with
        | tup h1 h2=>exact ⟨_,_,rfl, .inr h1,fun l hl=>q _ _ ⟨F,_,fr2.newl (fr1.coldA h2 (by simpa using hc)) hl⟩⟩
    · cases e
  · cases e
end
inductive Ty where
  | non | bool | int | str | list | tuple | dict
def Ty.name:Ty→String
  | .non=>"NoneType"
  | .bool=>"bool"
  | .int=>"int"
  | .str=>"str"
  | .list=>"list"
  | .tuple=>"tuple"
  | .dict=>"dict"
def Ty.is:Ty→Ty→Bool
  | .non, .non=>true
  | .bool, .bool=>true
  | .bool, .int=>true
  | .int, .int=>true
  | .str, .str=>true
  | .list, .list=>true
  | .tuple, .tuple=>true
  | .dict, .dict=>true
  | _,_=>false
def yX:PyData→Ty
  | .none=> .non
  | .bool _=> .bool
  | .int _=> .int
  | .str _=> .str
  | .list _=> .list
  | .tuple _=> .tuple
  | .dict _=> .dict
theorem zJ (K:PySem.W.Frag) (t n:Ty):PySem.W.kitOne K (.type t.name) (.type n.name)=some (t.is n):=by cases t <;> cases n <;> rfl
def nh (n:Ty) (d:PyData):Option PyData:=some (.bool ((yX d).is n))
section
variable {X:Cx} {e:Expr} {m1:Bool} {f:b7} {p p2 pos:Pos}
theorem rR {pins:List (Addr×Obj)} {s:Shared} {σ:iy} {H:Hp} {x:V} {u:Value} {d:PyData} {n:Ty} {A:Around} {E:Value→Shared→Prop} {Q:Value→Shared→Prop} (I:Inv X pins σ H s) (rx:RelV x u) (rp:Rp X.K H x d) (h:∀tk,Q (.bool ((yX d).is n)) {s with toks:=tk}):
    wpAny (model X.prog X.w) A (call (.builtin "isinstance") [u, .type n.name]) Q E s:=by
  have e:=zJ X.K (yX d) n
  cases rp with
  | non=>exact gw I rx .non e h
  | bl b=>exact gw I rx (.bl b) e h
  | int i=>exact gw I rx (.int i) e h
  | str y=>exact gw I rx (.str y) e h
  | lst h1 _=>
    cases rx
    obtain ⟨its,rv,⟨o,n',e1,c,_,d⟩,_⟩:=I.list h1
    exact PySem.W.kia_one PySem.W.kitx_list I.kIn ⟨_,e1,c⟩ e (fun z=>nomatch z) h
  | tup h1 _=>
    cases rx
    obtain ⟨its,rv,⟨o,e1,c,n',d⟩,_⟩:=I.tuple h1
    exact PySem.W.kia_one PySem.W.kitx_tuple I.kIn ⟨_,e1,c⟩ e (fun z=>nomatch z) h
  | dct h1 _=>
    cases rx
    obtain ⟨_,_,vs,_,ob,es,ep,e1,c,_⟩:=qi I.hok h1
    exact PySem.W.kia_one PySem.W.kitx_dict I.kIn ⟨_,e1,c.1⟩ e (fun z=>nomatch z) h
theorem rS (n:Ty):CallR X (.builtin "isinstance") (fun xs H Q=>∃x d,xs=[x, .ty n.name]∧Rp X.K H x d∧Q (.bl ((yX d).is n)) H):=by
  intro pins s σ H xs us Q I r h
  obtain ⟨x,d,rfl,rp,q⟩:=h
  obtain ⟨u,w',rfl,ru,rw'⟩:=r.two
  cases (show w'=Value.type n.name from rw')
  exact rR I ru rp fun tk=>⟨.bl _,H,I.tok _,rfl,q⟩
theorem jP (n:Ty) (hg:Gl X "isinstance") (hm:X.mg "isinstance"=none) (ha:EX X e m1 f) {x:Str} (hgx:Gl X x) (hmx:X.mg x=none) (hbx:bootBuiltins x=some (.type n.name)) (hnx:x≠"__name__":=by decide) (hdx:(x == ("__debug__":Str))=false:=by decide)
    (he:starEach [e, .Name x p2] X.env=(false,eval e X.env)::starEach [.Name x p2] X.env:=by rfl) (he2:starEach [.Name x p2] X.env=[(false,eval (.Name x p2) X.env)]:=by rfl) (hpl:(backTo pos (starEach [.Name x p2] X.env)).any (·.1)=false:=by rfl):
    EX X (.Call (.Name "isinstance" p) [e, .Name x p2] [] pos) m1 (jk (nh n) f):=by
  have h2:PE X (.Name x p2) (tC (.ty n.name)):=vo (v:= .ty n.name) hgx hmx hbx rfl hnx hdx
  refine bY (f_ (rS n) hg hm PyProof.Rows.boot_isinstance (aK ha (aK h2 cw he2) he) (by decide) (by decide) he hpl) fun σ H Q z=>?_
  obtain ⟨B,E,xs,Xs,res,E',fr,cl,e,q⟩:=z
  obtain ⟨⟨s,E1⟩,e1,e⟩:=Option.bind_eq_some_iff.mp e
  obtain ⟨d1,e2,e⟩:=Option.bind_eq_some_iff.mp e
  cases e
  refine ⟨B,E,xs,Xs,s,E1,fr,cl,e1,fun v1 H1 ⟨F,A,fr1⟩=>?_⟩
  obtain ⟨A',fr2⟩:=fr1.pop
  exact ⟨v1,d1,rfl,(fr1.look0 e2).1,q _ _ ⟨F,A',fr2.push ⟨rfl,_,rfl, .bl _⟩⟩⟩
end
end PL
namespace PL
open PySem L2 Nh
def ql (K:PySem.W.Frag) (H H':Hp) (v:V):Sl→Prop
  | .sh d=>Rp K (tups H') v d
  | .ow ds=>∃l vs,v= .ref l∧H l=none∧H' l=some (.lst vs)∧RpA K (tups H') vs ds
  | .tx ps=>∃t vs A,v= .ref t∧tups H' t=some (.tup vs)∧A.Nodup∧(∀a∈A,H a=none)∧PtsOk K (tups H') H' vs ps A
  | .od kvs=>∃l us A,v= .ref l∧(l::A).Nodup∧(∀a∈l::A,H a=none)∧H' l=some (.dK us)∧DlOk K (tups H') H' us kvs A
  | .br d=>Rp K H' v d
  | _=>False
def fG (K:PySem.W.Frag) (c:List PyData→Option Sl):Sp:=fun vs H Q _=>∃ds r,c ds=some r∧RpA K H vs ds∧∀v H',Same H H'→ql K H H' v r→Q v H'
section
variable {K:PySem.W.Frag} {B F:Hp} {A N:List Addr} {σ:iy} {H H':Hp} {E:List Sl} {xs:List V} {Xs:List Sl} {v:V} {s:Sl}
theorem FrF.growN (h:FrF K B F A σ H E xs Xs) (g:Same H H') (hN:∀a∈N,H a=none∧((∃us,H' a=some (.lst us))∨∃us,H' a=some (.dK us))):FrF K B (fun b=>if b∈N then none else if b∈A then none else H' b) A σ H' E xs Xs:=by
  have h1:=h.grow g
  have nF:∀b o,F b=some o→b∉N:=fun b o e hb=>by
    have:=h.fh.free (hN b hb).1
    rw [this] at e;cases e
  have FF:Same F (fun b=>if b∈N then none else if b∈A then none else H' b):=fun b o e=>by
    have nA:b∉A:=fun hb=>by rw [h.fr b hb] at e;cases e
    show (if b∈N then none else if b∈A then none else H' b)=some o
    rw [if_neg (nF b o e),if_neg nA]
    exact g _ _ (h.fh _ _ e)
  have hA:∀b∈A,H' b=H b:=fun b hb=>by
    rcases h.mutA b hb with ⟨_,z⟩ | ⟨_,z⟩ <;> rw [z,g _ _ z]
  refine ⟨h.bf.trans FF,fun b o e=>?_,fun b o e=>?_,h.sl.mono fun o s C _ hC q=>q.stay FF (fun b hb=>hA b (hC b hb)) fun _=>g,h.nd,fun a ha=>?_,h.len,h.pl⟩
  · by_cases hb:b∈N
    · rw [if_pos hb] at e;cases e
    · rw [if_neg hb] at e;exact h1.fh _ _ e
  · show (if b∈N then none else if b∈A then none else H' b)=some o
    by_cases hb:b∈N
    · obtain ⟨e1,e2⟩:=Option.filter_eq_some_iff.mp e
      rcases (hN b hb).2 with ⟨us,z⟩ | ⟨us,z⟩ <;> rw [z] at e1 <;> cases e1 <;> cases e2
    · rw [if_neg hb];exact h1.tf _ _ e
  · show (if a∈N then none else if a∈A then none else H' a)=none
    by_cases hb:a∈N
    · rw [if_pos hb]
    · rw [if_neg hb,if_pos ha]
theorem FrF.pushR (h:FrF K B F A σ H E xs Xs) (q:SlOk K F H σ (some v) s N) (nd:N.Nodup) (dj:∀a∈N,a∉A) (fr:∀a∈N,F a=none):FrF K B F (N++A) σ H E (v::xs) (s::Xs):=
  ⟨h.bf,h.fh,h.tf, .cons q h.sl,List.nodup_append.mpr ⟨nd,h.nd,fun a ha b hb e=>dj a ha (e▸hb)⟩,fun a ha=>(List.mem_append.mp ha).elim (fr a) (h.fr a),by simp [h.len],h.pl⟩
theorem FrF.told (h:FrF K B F A σ H E xs Xs) (g:Same H H') (q:ql K H H' v s):Frm K B σ H' E (v::xs) (s::Xs):=by
  cases s with
  | sh d=>
    have h1:=h.grow g
    exact ⟨_,_,h1.push ⟨rfl,v,rfl,Rp.same h1.tf q⟩⟩
  | ow ds=>
    obtain ⟨l,vs,rfl,hl,hl',r⟩:=q
    have h1:=h.growN (N:=[l]) g fun a ha=>by rw [List.mem_singleton.mp ha];exact ⟨hl, .inl ⟨vs,hl'⟩⟩
    exact ⟨_,_,h1.pushR (N:=[l]) ⟨l,vs,rfl,rfl,hl',r.same h1.tf⟩ (by simp) (fun a ha=>by rw [List.mem_singleton.mp ha];exact h.newA hl) fun a ha=>if_pos ha⟩
  | tx ps=>
    obtain ⟨t,vs,N,rfl,ht,nd,hN,r⟩:=q
    have h1:=h.growN (N:=N) g fun a ha=>⟨hN a ha, .inl (r.some a ha)⟩
    exact ⟨_,_,h1.pushR (N:=N) ⟨t,vs,rfl,h1.tf _ _ ht,r.stay h1.tf fun _ _=>rfl⟩ nd (fun a ha=>h.newA (hN a ha)) fun a ha=>if_pos ha⟩
  | no=>exact False.elim q
  | oi kvs=>exact False.elim q
  | od kvs=>
    obtain ⟨l,us,N,rfl,nd,hN,hl,r⟩:=q
    have h1:=h.growN (N:=l::N) g fun a ha=>⟨hN a ha,(List.mem_cons.mp ha).elim (fun z=> .inr ⟨us,z▸hl⟩) fun z=> .inl (r.some a z)⟩
    exact ⟨_,_,h1.pushR (N:=l::N) ⟨l,us,N,rfl,rfl,hl,r.stay h1.tf fun _ _=>rfl⟩ nd (fun a ha=>h.newA (hN a ha)) fun a ha=>if_pos ha⟩
  | al i=>exact False.elim q
  | br d=>
    have h1:=h.grow g
    exact ⟨_,_,h1.push ⟨rfl,v,rfl,q⟩⟩
end
def au (c:List PyData→Option Sl) (g:mN):b7:=fun E=>(g E).bind fun a=>(aZ a.2 a.1).bind fun ds=>(c ds).map fun r=>(r,a.2)
theorem bJ {X:Cx} {k:Nat} {x:Str} {ps:List Str} {c:List PyData→Option Sl} {p pos:Pos} {e:Expr} {es:List Expr} {m:Bool} {g:mN} (D:Own X.prog X.w X.K X.mg X.base k x ps (fG X.K c)) (hr:Room k X.A) (hg:Gl X x) (ha:AX X (e::es) m g)
    (hdb:(x == ("__debug__":Str))=false:=by decide) (he:starEach (e::es) X.env=(false,eval e X.env)::starEach es X.env:=by rfl) (hpl:(backTo pos (starEach es X.env)).any (·.1)=false:=by rfl):
    EX X (.Call (.Name x p) (e::es) [] pos) m (au c g):=by
  refine bY (jF D hr hg ha hdb he hpl) fun σ H Q z=>?_
  obtain ⟨B,E,xs,Xs,res,E',fr,cl,e,q⟩:=z
  obtain ⟨⟨rs,E1⟩,e1,e⟩:=Option.bind_eq_some_iff.mp e
  obtain ⟨ds,e2,e⟩:=Option.bind_eq_some_iff.mp e
  obtain ⟨r,e3,e⟩:=Option.map_eq_some_iff.mp e
  cases e
  refine ⟨B,E,xs,Xs,rs,E1,fr,cl,e1,fun vs H1 hl ⟨F,A,fr1⟩=>?_⟩
  obtain ⟨r1,A',fr2⟩:=fr1.looks hl e2
  exact ⟨ds,res,e3,by rw [List.append_nil];exact r1,fun v H' g q'=>q v H' (fr2.told g q')⟩
def aG (i:Nat) (f:b7):b7:=fun E=>match E[i]? with
  | some (.ow _)=>(f E).bind fun a=>(frz a.2 a.1).bind fun b=>match b.2[i]? with
    | some (.ow ds)=>if ds.length < 1000000 then some (.sh .none,b.2.set i (.ow (ds++[b.1]))) else none
    | _=>none
  | _=>none
def lW (i:Nat):b7:=fun E=>match E[i]? with
  | some (.ow ds)=>(ds[ds.length - 1]?).map fun d=>(.sh d,E.set i (.ow ds.dropLast))
  | _=>none
section
variable {X:Cx} {e:Expr} {m1:Bool} {f:b7} {x:Str} {p apos cpos:Pos}
theorem dg (i:Nat) (he:EX X e m1 f) (hN:X.N[i]? =some x:=by rfl) (hv:xt X.env.scope x:=by first | exact Or.inl rfl | exact Or.inr (Or.inl rfl) | exact Or.inr (Or.inr rfl)) (hd:(x == ("__debug__":Str))=false:=by decide) (hcd:(x == ("__classdict__":Str))=false:=by decide)
    (hs:starEach [e] X.env=[(false,eval e X.env)]:=by rfl) (hbase:attributeBase (.Name x p) "append" X.env (eval (.Name x p) X.env)=eval (.Name x p) X.env:=by rfl)
    (hfew:((backTo cpos (starEach [e] X.env)).all (fun x=> !x.1)&&(backToKw cpos (keywordEach [] X.env)).all (fun x=>x.1.isSome)
      &&decide (([e]:List Expr).length+([]:List Keyword).length+(if ([]:List Keyword).isEmpty then 0 else 1) < 30))=true:=by rfl) (hline:(apos.endLine == cpos.line)=true:=by rfl):
    EX X (.Call (.Attribute (.Name x p) "append" apos) [e] [] cpos) true (aG i f):=by
  refine bY (zu PySem.F.plainAttrs_list PySem.F.slot_list_append PySem.F.type_list_append kD (jw hN hv hd hcd) (aK he cw hs) hbase hfew hline hs rfl) fun σ H Q z=>?_
  obtain ⟨B,E,xs,Xs,res,E',⟨F,A,fr⟩,cl,e,q⟩:=z
  unfold aG at e
  split at e
  · rename_i ds0 ei
    obtain ⟨⟨s,E1⟩,e1,e⟩:=Option.bind_eq_some_iff.mp e
    obtain ⟨⟨d,E2⟩,e2,e⟩:=Option.bind_eq_some_iff.mp e
    simp only at e
    split at e
    · rename_i ds ei2
      split at e
      · rename_i hl
        cases e
        obtain ⟨o,A1,eo,l,vs,rfl,rfl,hl0,_⟩:=fr.var ei
        refine ⟨_,eo, .inl ⟨rfl,_,SqL.of hl0⟩,B,E,xs,Xs,s,E1,⟨F,A,fr⟩,fun _=>cl rfl,e1,fun v H1 ⟨F1,A1,fr1⟩=>?_⟩
        obtain ⟨F2,A2,fr2⟩:=fr1.frz0 e2
        obtain ⟨v',A3,ev,rfl,w,ew,rv⟩:=fr2.ext (k:=0) rfl
        cases ev;cases ew
        obtain ⟨A4,fr3⟩:=fr2.pop
        obtain ⟨l',vs',eo',hl',r',put⟩:=fr3.mut ei2 (cl rfl)
        rw [eo] at eo'
        cases eo'
        have ll:=r'.len
        have fr4:=put (vs'++[v]) (ds++[d]) (r'.snoc rv)
        exact ⟨l,vs',v,rfl,rfl,hl',small (by omega),q _ _ ⟨_,_,fr4.push ⟨rfl,_,rfl, .non⟩⟩⟩
      · cases e
    · cases e
  · cases e
theorem yg (i:Nat) (hN:X.N[i]? =some x:=by rfl) (hv:xt X.env.scope x:=by first | exact Or.inl rfl | exact Or.inr (Or.inl rfl) | exact Or.inr (Or.inr rfl)) (hd:(x == ("__debug__":Str))=false:=by decide) (hcd:(x == ("__classdict__":Str))=false:=by decide)
    (hbase:attributeBase (.Name x p) "pop" X.env (eval (.Name x p) X.env)=eval (.Name x p) X.env:=by rfl) (hline:(apos.endLine == cpos.line)=true:=by rfl):
    EX X (.Call (.Attribute (.Name x p) "pop" apos) [] [] cpos) true (lW i):=by
  refine bY (xR PySem.F.plainAttrs_list PySem.F.slot_list_pop PySem.F.type_list_pop xS (jw hN hv hd hcd) hbase hline) fun σ H Q z=>?_
  obtain ⟨B,E,xs,Xs,res,E',⟨F,A,fr⟩,cl,e,q⟩:=z
  unfold lW at e
  split at e
  · rename_i ds ei
    obtain ⟨d,ed,e⟩:=Option.map_eq_some_iff.mp e
    cases e
    obtain ⟨l,vs,eo,hl,r,put⟩:=fr.mut ei (cl rfl)
    obtain ⟨y,ey,ry⟩:=r.get ed
    have fr2:=put vs.dropLast ds.dropLast r.dropLast
    exact ⟨_,eo, .inl ⟨rfl,_,SqL.of hl⟩,l,vs,y,rfl,rfl,hl,by rw [r.len];exact ey,q _ _ ⟨_,_,fr2.push ⟨rfl,_,rfl,ry⟩⟩⟩
  · cases e
end
def qm (s:Sl):Sl:=match s.val with
  | some d=> .sh d
  | none=> .no
def frzAll (E:List Sl):List Sl:=E.map qm
def settle (E:List Sl):Sl→Option (Sl×List Sl)
  | .al i=>(frz E (.al i)).map fun a=>(.sh a.1,a.2)
  | .br d=>if cJ d then some (.sh d,E) else some (.sh d,frzAll E)
  | s=>some (s,E)
def ap (g h:c9):c9:=fun E=>(g E).bind fun a=>match a.2 with
  | .nx=>h a.1
  | fl=>some (a.1,fl)
def bb:c9:=fun E=>some (E, .nx)
def bR (f:b7):c9:=fun E=>(f E).map fun a=>(a.2, .nx)
def bP (f:b7):c9:=fun E=>(f E).bind fun a=>match a.1 with
  | .al i=>(a.2[i]?).map fun s=>(a.2.set i .no, .rt s)
  | s=>some (a.2, .rt s)
def bw (c:gO) (g h:c9):c9:=fun E=>(c E).bind fun a=>if a.1 then g a.2 else h a.2
def ak (i:Nat) (f:b7):c9:=fun E=>(f E).bind fun a=>(settle a.2 a.1).bind fun b=>if i < b.2.length then some (b.2.set i b.1, .nx) else none
section
variable {K:PySem.W.Frag} {B F:Hp} {A:List Addr} {σ:iy} {H:Hp} {E E':List Sl} {xs:List V} {Xs:List Sl} {v:V} {s s':Sl} {d:PyData}
theorem FrF.frzAll (h:FrF K B F A σ H E xs Xs) (hX:Xs=[]):FrF K B H [] σ H (PL.frzAll E) [] []:=by
  subst hX
  have hx:xs=[]:=by simpa using h.len
  subst hx
  refine ⟨h.bf.trans h.fh,Same.refl _,iA H,?_,List.nodup_nil,fun a ha=>(by cases ha),rfl,fun s hs=>?_⟩
  · have key:∀{os:List (Option V)} {ss:List Sl} {C:List Addr},SAll (SlOk K F H σ) os ss C→SAll (SlOk K H H σ) os (PL.frzAll ss) []:=fun {os ss C} r=>by
      induction r with
      | nil=>exact .nil
      | cons q _ ih=>
        refine .cons (A:=[]) ?_ ih
        unfold qm
        split
        · rename_i d e
          obtain ⟨v,rfl,r,_⟩:=q.val h.fh e
          exact ⟨rfl,v,rfl,r⟩
        · exact rfl
    exact key h.sl
  · obtain ⟨t,_,rfl⟩:=List.mem_map.mp hs
    unfold qm
    split <;> rfl
theorem FrF.settle (h:FrF K B F A σ H E (v::xs) (s::Xs)) (hX:Xs=[]) (q:PL.settle E s=some (s',E')):s'.isAl=false∧Frm K B σ H E' (v::xs) (s'::Xs):=by
  cases s with
  | al i=>
    obtain ⟨⟨d,E2⟩,e,z⟩:=Option.map_eq_some_iff.mp (show (frz E (.al i)).map (fun a=>(Sl.sh a.1,a.2))=some (s',E') from q)
    cases z
    obtain ⟨F',A',h'⟩:=h.frz0 e
    exact ⟨rfl,F',A',h'⟩
  | br d=>
    have r:=(h.look0 (d:=d) rfl).1
    obtain ⟨A',h'⟩:=h.pop
    simp only [PL.settle] at q
    split at q
    · rename_i hf
      cases q
      exact ⟨rfl,F,A',h'.push ⟨rfl,v,rfl,h.cold r hf⟩⟩
    · cases q
      have h2:=h'.frzAll hX
      have hl:=h'.len
      subst hX
      have hx:xs=[]:=by simpa using hl
      subst hx
      exact ⟨rfl,H,[],h2.push ⟨rfl,v,rfl,r⟩⟩
  | no=>cases q;exact ⟨rfl,F,A,h⟩
  | sh d=>cases q;exact ⟨rfl,F,A,h⟩
  | ow ds=>cases q;exact ⟨rfl,F,A,h⟩
  | od kvs=>cases q;exact ⟨rfl,F,A,h⟩
  | oi kvs=>cases q;exact ⟨rfl,F,A,h⟩
  | tx ps=>cases q;exact ⟨rfl,F,A,h⟩
theorem FrF.move {i:Nat} (h:FrF K B F A σ H E (v::xs) (.al i::Xs)) (e:E[i]? =some s):Frm K B σ H (E.set i .no) (v::xs) (s::Xs):=by
  obtain ⟨v',A1,ev,rfl,w,ew,hw⟩:=h.ext (k:=0) rfl
  cases ev;cases ew
  obtain ⟨A',h'⟩:=h.pop
  obtain ⟨o,A0,A1,A2,eA,eo,hp,put⟩:=h'.sl.at (k:=Xs.length+i) (s:=s) (by rw [List.getElem?_append_right (by omega)];simpa using e)
  have z:=put (SlOk K F H σ) o .no [] rfl fun _ _ _ _ _ q=>q
  have e3:(Xs++E).set (Xs.length+i) .no=Xs++E.set i .no:=by
    rw [List.set_append_right _ _ (by omega),Nat.add_sub_cancel_left]
  have e2:(List.map some xs++σ).set (Xs.length+i) o=List.map some xs++σ:=List.ext_getElem? fun j=>by
    by_cases hj:Xs.length+i=j
    · subst hj
      rw [List.getElem?_set_self',eo];rfl
    · rw [List.getElem?_set_ne hj]
  rw [e2,e3] at z
  rw [List.getElem?_append_right (by rw [List.length_map,h'.len];omega),List.length_map,h'.len,Nat.add_sub_cancel_left,hw] at eo
  cases eo
  have nd:=h'.nd
  rw [eA] at nd
  refine ⟨F,A1++(A0++([]++A2)),h.bf,h.fh,h.tf, .cons hp z,?_,fun a ha=>h'.fr a ?_,h.len,fun s' hs=>?_⟩
  · have p:(A1++(A0++([]++A2))).Perm (A0++(A1++A2)):=by
      rw [List.nil_append,←List.append_assoc,←List.append_assoc]
      exact List.Perm.append_right _ List.perm_append_comm
    exact p.nodup_iff.mpr nd
  · rw [eA]
    simp only [List.mem_append,List.nil_append] at ha ⊢
    rcases ha with z | z | z
    · exact .inr (.inl z)
    · exact .inl z
    · exact .inr (.inr z)
  · rcases List.mem_or_eq_of_mem_set hs with hs | hs
    · exact h.pl s' hs
    · subst hs;rfl
end
section
variable {X:Cx} {st:Stmt} {bO a b:List Stmt} {g h:c9} {e c:Expr} {m:Bool} {f:b7} {t:gO} {pos:Pos}
theorem cL:vi X [] bb:=qf pV fun D σ H z=>by
  obtain ⟨B,E,xs,Xs,E',fl,fr,cl,e,q⟩:=z
  cases e
  exact q _ _ fr
theorem am (h1:SX X st g):vi X [st] g:=du h1
theorem yh {K:PySem.W.Frag} {D:Ends} {σ:iy} {H:Hp} (z:rs K (ap g h) D σ H):rs K g {D with nx:=rs K h D} σ H:=by
  obtain ⟨B,E,xs,Xs,E',fl,fr,cl,e,q⟩:=z
  obtain ⟨⟨E1,f1⟩,e1,e⟩:=Option.bind_eq_some_iff.mp e
  refine ⟨B,E,xs,Xs,E1,f1,fr,cl,e1,?_⟩
  cases f1 with
  | nx=>exact fun σ' H' fr'=>⟨B,E1,xs,Xs,E',fl,fr',cl,e,q⟩
  | bk=>cases e;exact q
  | ct=>cases e;exact q
  | rt r=>cases e;exact q
theorem ah (h1:SX X st g) (h2:vi X bO h):vi X (st::bO) (ap g h):=qf (fu h1 h2) fun D σ H z=>yh z
theorem e_ (he:EX X e m f) (hs:swapsWith e none pos.line X.env=pure false:=by rfl):SX X (.Expr e pos) (bR f):=gc (jj he hs) fun D σ H z=>by
  obtain ⟨B,E,xs,Xs,E',fl,fr,cl,e,q⟩:=z
  obtain ⟨⟨s,E1⟩,e1,e⟩:=Option.map_eq_some_iff.mp e
  cases e
  refine ⟨B,E,xs,Xs,s,E1,fr,fun _=>Calm.nil cl,e1,fun v H1 ⟨F,A,fr1⟩=>?_⟩
  obtain ⟨A',fr2⟩:=fr1.pop
  exact q _ _ ⟨F,A',fr2⟩
theorem bK (he:EX X e m f):SX X (.Return (some e) pos) (bP f):=gc (sT he) fun D σ H z=>by
  obtain ⟨B,E,xs,Xs,E',fl,fr,cl,e,q⟩:=z
  obtain ⟨⟨s,E1⟩,e1,e⟩:=Option.bind_eq_some_iff.mp e
  refine ⟨B,E,xs,Xs,s,E1,fr,fun _=>Calm.nil cl,e1,fun v H1 ⟨F,A,fr1⟩=>?_⟩
  simp only at e
  split at e
  · obtain ⟨s',es,e⟩:=Option.map_eq_some_iff.mp e
    cases e
    exact q σ _ _ (fr1.move es)
  · cases e
    exact q σ _ _ ⟨F,A,fr1⟩
theorem eG (hc:TX X c m t) (ha:vi X a g) (hb:vi X b h):SX X (.If c a b pos) (bw t g h):=gc (sU hc ha hb) fun D σ H z=>by
  obtain ⟨B,E,xs,Xs,E',fl,fr,cl,e,q⟩:=z
  obtain ⟨⟨b1,E1⟩,e1,e⟩:=Option.bind_eq_some_iff.mp e
  refine ⟨B,E,xs,Xs,b1,E1,fr,fun _=>Calm.nil cl,e1,fun H1 fr1=>?_⟩
  cases b1 with
  | true=>exact (if_pos rfl).mpr ⟨B,E1,xs,Xs,E',fl,fr1,cl,e,q⟩
  | false=>exact (if_neg (by decide)).mpr ⟨B,E1,xs,Xs,E',fl,fr1,cl,e,q⟩
theorem aA (i:Nat) {x:Str} {pos':Pos} (hN:X.N.Nodup) (he:EX X e m f) (hi:X.N[i]? =some x:=by rfl) (hx:xu X.env.scope x:=by first | exact Or.inl rfl | exact Or.inr rfl) (hs:swapsWith e (some (.Name x pos')) pos.line X.env=pure false:=by rfl) (hf:X.fn x=true∨X.env.scope.names.lookup x=some .local:=by first | exact .inl rfl | exact .inr rfl | assumption):
    SX X (.Assign [.Name x pos'] e pos) (ak i f):=gc (jx hN hi hx he hs hf) fun D σ H z=>by
  obtain ⟨B,E,xs,Xs,E',fl,fr,cl,e,q⟩:=z
  obtain ⟨⟨s,E1⟩,e1,e⟩:=Option.bind_eq_some_iff.mp e
  obtain ⟨⟨s',E2⟩,e2,e⟩:=Option.bind_eq_some_iff.mp e
  refine ⟨B,E,xs,Xs,s,E1,fr,fun _=>Calm.nil cl,e1,fun v H1 ⟨F,A,fr1⟩=>?_⟩
  obtain ⟨c1,F2,A2,fr2⟩:=fr1.settle cl e2
  simp only at e
  split at e
  · rename_i hi
    cases e
    obtain ⟨A3,fr3⟩:=fr2.store c1 (Still.nil cl) hi
    exact q _ _ ⟨F2,A3,fr3⟩
  · cases e
end
end PL
namespace PL
open PySem L2 Nh
abbrev gj:=PyData→List Sl→Option (List Sl)
abbrev ni:=List PyData→List Sl→Option (List Sl)
def rg (K:PySem.W.Frag) (h:gj):TG:=fun v σ H Q=>∃B E xs Xs d E',Frm K B σ H E (v::xs) (.sh d::Xs)∧Still Xs∧h d E=some E'∧∀σ' H',Frm K B σ' H' E' xs Xs→Q σ' H'
def Bw (K:PySem.W.Frag) (h:ni):vq:=fun vs σ H Q=>∃B E xs Xs ds E',vs.length=ds.length∧Frm K B σ H E (vs++xs) (ds.map .sh++Xs)∧Still Xs∧h ds E=some E'∧∀σ' H',Frm K B σ' H' E' xs Xs→Q σ' H'
def GX (X:Cx) (e:Expr) (h:gj):Prop:=PG X e (rg X.K h)
def Ao (X:Cx) (es:List Expr) (h:ni):Prop:=xz X es (Bw X.K h)
def az (i:Nat):gj:=fun d E=>if i < E.length then some (E.set i (.sh d)) else none
def dX:ni:=fun ds E=>if ds.isEmpty then some E else none
def bD (h:gj) (hs:ni):ni:=fun ds E=>match ds with
  | d::ds=>(h d E).bind (hs ds)
  | []=>none
def dY (n:Nat) (hs:ni):gj:=fun d E=>match d with
  | .tuple ds=>if ds.length=n then hs ds E else none
  | _=>none
section
variable {X:Cx}
theorem ub {e:Expr} {t t':TG} (h:PG X e t) (k:∀v σ H Q,t' v σ H Q→t v σ H Q):PG X e t':=fun pins s σ H v u Q I r q=>h pins s σ H v u Q I r (k v σ H Q q)
theorem qo {es:List Expr} {t t':vq} (h:xz X es t) (k:∀v σ H Q,t' v σ H Q→t v σ H Q):xz X es t':=fun pins s σ H v u Q I r q=>h pins s σ H v u Q I r (k v σ H Q q)
theorem aU (i:Nat) {x:Str} {pos:Pos} (hN:X.N.Nodup) (hi:X.N[i]? =some x:=by rfl) (hx:xu X.env.scope x:=by first | exact Or.inl rfl | exact Or.inr rfl) (hf:X.fn x=true∨X.env.scope.names.lookup x=some .local:=by first | exact .inl rfl | exact .inr rfl | assumption):GX X (.Name x pos) (az i):=ub (eJ hN hi hx hf) fun v σ H Q z=>by
  obtain ⟨B,E,xs,Xs,d,E',⟨F,A,fr⟩,cl,e,q⟩:=z
  unfold az at e
  split at e
  · rename_i hi
    cases e
    obtain ⟨A',fr'⟩:=fr.store rfl cl hi
    exact q _ _ ⟨F,A',fr'⟩
  · cases e
theorem gC:Ao X [] dX:=qo lj fun v σ H Q z=>by
  obtain ⟨B,E,xs,Xs,ds,E',hl,fr,cl,e,q⟩:=z
  unfold dX at e
  split at e
  · rename_i hd
    cases e
    have:ds=[]:=by simpa using hd
    subst this
    have hv:v=[]:=by simpa using hl
    subst hv
    exact ⟨rfl,q _ _ fr⟩
  · cases e
theorem b9 {e:Expr} {es:List Expr} {h:gj} {hs:ni} (h1:GX X e h) (h2:Ao X es hs) (hst:(assignEach (e::es) X.env).map (·.2)=assign e X.env::(assignEach es X.env).map (·.2):=by rfl):Ao X (e::es) (bD h hs):=qo (f9 h1 h2 hst) fun v σ H Q z=>by
  obtain ⟨B,E,xs,Xs,ds,E',hl,fr,cl,e,q⟩:=z
  cases ds with
  | nil=>cases e
  | cons d ds=>
    cases v with
    | nil=>cases hl
    | cons v vs=>
      obtain ⟨E1,e1,e2⟩:=Option.bind_eq_some_iff.mp e
      refine ⟨v,vs,rfl,B,E,vs++xs,ds.map Sl.sh++Xs,d,E1,fr,fun s hs=>?_,e1,fun σ1 H1 fr1=>⟨B,E1,xs,Xs,ds,E',by simpa using hl,fr1,cl,e2,q⟩⟩
      rcases List.mem_append.mp hs with hs | hs
      · obtain ⟨d',_,rfl⟩:=List.mem_map.mp hs
        rfl
      · exact cl s hs
theorem iD {es:List Expr} {k:Nat} {pos:Pos} {hs:ni} {n:Nat} (hc:X.calm=true) (h:Ao X es hs) (hn:(assignEach es X.env).length=n:=by rfl) (hst:(assignEach es X.env).findIdx? (·.1)=none:=by rfl):GX X (.Tuple es k pos) (dY n hs):=ub (oE hc h hn hst) fun v σ H Q z=>by
  obtain ⟨B,E,xs,Xs,d,E',⟨F,A,fr⟩,cl,e,q⟩:=z
  unfold dY at e
  split at e
  · rename_i ds
    split at e
    · rename_i hl
      obtain ⟨v',A1,ev,rfl,w,ew,r⟩:=fr.ext (k:=0) rfl
      cases ev;cases ew
      cases r with
      | tup h1 h2=>
        obtain ⟨A',fr'⟩:=fr.pop
        have key:∀{us:List V} {es:List PyData},RpA X.K F us es→FrF X.K B F A' σ H E (us++xs) (es.map .sh++Xs):=fun {us es} r=>by
          induction us generalizing es with
          | nil=>cases r;exact fr'
          | cons u us ih=>
            cases r with
            | cons r1 r2=>exact (ih r2).push ⟨rfl,_,rfl,r1⟩
        exact ⟨_,_,rfl,fr.fh.tup h1,by rw [h2.len];exact hl,B,E,xs,Xs,ds,E',h2.len,⟨F,A',key h2⟩,cl,e,q⟩
    · cases e
  · cases e
end
def lX (i:Nat) (fi fe:b7):c9:=fun E=>(fe E).bind fun a=>(frz a.2 a.1).bind fun b=>match b.2[i]? with
  | some (.ow _)=>(fi b.2).bind fun c=>match look c.2 c.1,c.2[i]? with
    | some (.int k),some (.ow ds)=>(tF ds.length k).map fun j=>(c.2.set i (.ow (ds.set j b.1)), .nx)
    | _,_=>none
  | _=>none
theorem uc {X:Cx} (i:Nat) {e ei:Expr} {x:Str} {m m2:Bool} {fe fi:b7} {p p2 pos:Pos} (he:EX X e m fe) (hi:EX X ei m2 fi) (hN:X.N[i]? =some x:=by rfl) (hv:xt X.env.scope x:=by first | exact Or.inl rfl | exact Or.inr (Or.inl rfl) | exact Or.inr (Or.inr rfl)) (hd:(x == ("__debug__":Str))=false:=by decide) (hcd:(x == ("__classdict__":Str))=false:=by decide)
    (hs:swapsWithSole [.Subscript (.Name x p) ei p2] e pos.line X.env=pure false:=by rfl) (hw:swappedStores [.Subscript (.Name x p) ei p2] e X.env=pure none:=by rfl) (h1:(assignEach [.Subscript (.Name x p) ei p2] X.env).map (·.2)=[assign (.Subscript (.Name x p) ei p2) X.env]:=by rfl)
    (ha:∀v,assign (.Subscript (.Name x p) ei p2) X.env v=(do
      let ov ←holding [v] (eval (.Name x p) X.env)
      let iv ←holding [v,ov] (eval ei X.env)
      standAt p2
      holding [v,ov,iv] (setItem ov iv v)
      release [v,ov,iv] []):=by intro _;rfl):SX X (.Assign [.Subscript (.Name x p) ei p2] e pos) (lX i fi fe):=gc (xE he (xD (jw hN hv hd hcd) hi tH ha) hs hw h1) fun D σ H z=>by
  obtain ⟨B,E,xs,Xs,E',fl,fr,cl,e,q⟩:=z
  obtain ⟨⟨s,E1⟩,e1,e⟩:=Option.bind_eq_some_iff.mp e
  obtain ⟨⟨d,E2⟩,e2,e⟩:=Option.bind_eq_some_iff.mp e
  refine ⟨B,E,xs,Xs,s,E1,fr,fun _=>Calm.nil cl,e1,fun v H1 ⟨F,A,fr1⟩=>?_⟩
  obtain ⟨F2,A2,fr2⟩:=fr1.frz0 e2
  simp only at e
  split at e
  · rename_i ds0 ei
    obtain ⟨⟨s3,E3⟩,e3,e⟩:=Option.bind_eq_some_iff.mp e
    obtain ⟨o,A1,eo,l,vs0,rfl,_⟩:=fr2.var ei
    refine ⟨_,eo,B,E2,v::xs, .sh d::Xs,s3,E3,⟨F2,A2,fr2⟩,fun _=>Calm.cons (Calm.nil cl) rfl,e3,fun v3 H3 ⟨F3,A3,fr3⟩=>?_⟩
    simp only at e
    split at e
    · rename_i k ds lk ei3
      obtain ⟨j,ej,e⟩:=Option.map_eq_some_iff.mp e
      cases e
      have r3:=(fr3.look0 lk).1
      cases r3
      obtain ⟨A4,fr4⟩:=fr3.pop
      obtain ⟨v',A5,ev,rfl,w,ew,rv⟩:=fr4.ext (k:=0) rfl
      cases ev;cases ew
      obtain ⟨A6,fr5⟩:=fr4.pop
      obtain ⟨l',vs',eo',hl',r',put⟩:=fr5.mut ei3 (Calm.nil cl)
      rw [eo] at eo'
      cases eo'
      exact ⟨l,vs',k,j,rfl,rfl,hl',by rw [r'.len];exact ej,q _ _ ⟨_,_,put _ _ (r'.set j rv)⟩⟩
    · cases e
  · cases e
def nj (K:PySem.W.Frag) (B0:Hp) (J:It) (ds:List PyData):Prop:=∀{B F:Hp} {A:List Addr} {σ:iy} {H:Hp} {E:List Sl} {xs:List V} {Xs:List Sl} (i:Nat),Same B0 B→FrF K B F A σ H E xs Xs→
  (∀d,ds[i]? =some d→J.go i H∧∀x H2,J.yld i H x H2→Frm K B σ H2 E (x::xs) (.sh d::Xs))∧(i=ds.length→J.stop i H)
def ri (K:PySem.W.Frag) (m:Bool) (f:iZ):TI:=fun σ H R=>∃B E xs Xs ds E',Frm K B σ H E xs Xs∧(m=true→Calm Xs)∧f E=some (ds,E')∧∀B' J H',Same B B'→Frm K B' σ H' E' xs Xs→nj K B' J ds→R J H'
def IX (X:Cx) (tg e:Expr) (m:Bool) (f:iZ):Prop:=PI X tg e (ri X.K m f)
theorem FrF.base {K:PySem.W.Frag} {B B' F:Hp} {A:List Addr} {σ:iy} {H:Hp} {E:List Sl} {xs:List V} {Xs:List Sl} (h:FrF K B' F A σ H E xs Xs) (s:Same B B'):FrF K B F A σ H E xs Xs:=⟨s.trans h.bf,h.fh,h.tf,h.sl,h.nd,h.fr,h.len,h.pl⟩
theorem Frm.base {K:PySem.W.Frag} {B B':Hp} {σ:iy} {H:Hp} {E:List Sl} {xs:List V} {Xs:List Sl} (h:Frm K B' σ H E xs Xs) (s:Same B B'):Frm K B σ H E xs Xs:=let ⟨F,A,h⟩:=h;⟨F,A,h.base s⟩
theorem FrF.raise {K:PySem.W.Frag} {B F:Hp} {A:List Addr} {σ:iy} {H:Hp} {E:List Sl} {xs:List V} {Xs:List Sl} (h:FrF K B F A σ H E xs Xs):FrF K F F A σ H E xs Xs:=⟨Same.refl _,h.fh,h.tf,h.sl,h.nd,h.fr,h.len,h.pl⟩
def gl (lo:Int) (n:Nat):List PyData:=(List.range n).map fun (k:Nat)=> .int (lo+(k:Int))
def eS (g:mN):iZ:=fun E=>(g E).bind fun a=>match aZ a.2 a.1 with
  | some [.int j]=>if -1000000≤j∧j≤1000000 then some (gl 0 j.toNat,a.2) else none
  | _=>none
def jQ (g:mN):iZ:=fun E=>(g E).bind fun a=>match aZ a.2 a.1 with
  | some [.int i, .int j]=>if -1000000≤i∧i≤1000000∧ -1000000≤j∧j≤1000000 then some (gl i (j - i).toNat,a.2) else none
  | _=>none
def ud (f:b7):iZ:=fun E=>(f E).bind fun a=>(frz a.2 a.1).bind fun b=>match b.1 with
  | .list ds=>some (ds.reverse,b.2)
  | _=>none
section
variable {X:Cx} {tg e e2:Expr} {m:Bool} {f:b7} {g:mN} {p pos:Pos} {K:PySem.W.Frag} {B:Hp}
theorem jR {t t':TI} (h:PI X tg e t) (k:∀σ H Q,t' σ H Q→t σ H Q):PI X tg e t':=fun pins s σ H R I q=>h pins s σ H R I (k σ H R q)
theorem kP {a:Addr} {vs:List V} {ds:List PyData} (h:SqL K B a vs) (r:RpA K B vs ds):nj K B (yU K a) ds:=fun {B' F A σ H E xs Xs} i sB fr=>by
  have hH:=fr.fh.seq (fr.bf.seq (sB.seq h))
  refine ⟨fun d ed=>?_,fun e=>⟨vs,hH,by rw [e,r.len];exact Nat.le_refl _⟩⟩
  obtain ⟨v,ev,rv⟩:=r.get ed
  refine ⟨⟨vs,v,hH,ev⟩,fun x H2 ⟨e2,y⟩=>?_⟩
  subst e2
  have:=y vs hH
  rw [ev] at this
  cases this
  exact ⟨F,A,fr.push ⟨rfl,_,rfl,rv.same (sB.trans fr.bf)⟩⟩
theorem ue {a:Addr} {vs:List V} {ds:List PyData} (h:SqL K B a vs) (r:RpA K B vs ds):nj K B (AM K a vs) ds.reverse:=fun {B' F A σ H E xs Xs} i sB fr=>by
  have hH:=fr.fh.seq (fr.bf.seq (sB.seq h))
  refine ⟨fun d ed=>?_,fun e=>⟨hH,by rw [e,List.length_reverse,r.len]⟩⟩
  obtain ⟨v,ev,rv⟩:=r.rev.get ed
  have hi:i < vs.length:=by
    have:=(List.getElem?_eq_some_iff.mp ev).1
    simpa using this
  refine ⟨⟨hH,hi⟩,fun x H2 ⟨e2,y⟩=>?_⟩
  subst e2
  rw [ev] at y
  cases y
  exact ⟨F,A,fr.push ⟨rfl,_,rfl,rv.same (sB.trans fr.bf)⟩⟩
theorem jS {lo:Int} {n:Nat}:nj K B (sW lo n) (gl lo n):=fun {B' F A σ H E xs Xs} i sB fr=>by
  have hl:(gl lo n).length=n:=by simp [gl]
  refine ⟨fun d ed=>?_,fun e=>?_⟩
  · have hi:i < n:=by have:=(List.getElem?_eq_some_iff.mp ed).1;omega
    refine ⟨hi,fun x H2 ⟨e2,y⟩=>?_⟩
    subst e2 y
    have:d= .int (lo+i):=by
      unfold gl at ed
      rw [List.getElem?_map,List.getElem?_range hi] at ed
      exact (Option.some.inj ed).symm
    subst this
    exact ⟨F,A,fr.push ⟨rfl,_,rfl, .int _⟩⟩
  · show n≤i
    omega
theorem yi (hg:Gl X "reversed") (hm:X.mg "reversed"=none) (he:EX X e m f) (hs:starEach [e] X.env=[(false,eval e X.env)]:=by rfl):IX X tg (.Call (.Name "reversed" p) [e] [] pos) m (ud f):=jR (xW hg hm (aK he cw hs) hs) fun σ H R z=>by
  obtain ⟨B,E,xs,Xs,ds,E',fr,cl,e,q⟩:=z
  obtain ⟨⟨s,E1⟩,e1,e⟩:=Option.bind_eq_some_iff.mp e
  obtain ⟨⟨d,E2⟩,e2,e⟩:=Option.bind_eq_some_iff.mp e
  refine ⟨B,E,xs,Xs,s,E1,fr,cl,e1,fun v H1 ⟨F,A,fr1⟩=>?_⟩
  obtain ⟨F2,A2,fr2⟩:=fr1.frz0 e2
  simp only at e
  split at e
  · cases e
    obtain ⟨v',A1,ev,rfl,w,ew,r⟩:=fr2.ext (k:=0) rfl
    cases ev;cases ew
    cases r with
    | lst h1 h2=>
      obtain ⟨A3,fr3⟩:=fr2.pop
      exact ⟨_,_,rfl,fr2.fh.seq h1,q F2 _ _ fr2.bf ⟨F2,A3,fr3.raise⟩ (ue h1 h2)⟩
  · cases e
theorem gD (hg:Gl X "range") (hm:X.mg "range"=none) (ha:AX X [e] m g) (hs:starEach [e] X.env=[(false,eval e X.env)]:=by rfl):IX X tg (.Call (.Name "range" p) [e] [] pos) m (eS g):=jR (km hg hm ha hs) fun σ H R z=>by
  obtain ⟨B,E,xs,Xs,ds,E',fr,cl,e,q⟩:=z
  obtain ⟨⟨rs,E1⟩,e1,e⟩:=Option.bind_eq_some_iff.mp e
  refine ⟨B,E,xs,Xs,rs,E1,fr,cl,e1,fun vs H1 hl ⟨F,A,fr1⟩=>?_⟩
  simp only at e
  split at e
  · rename_i j ld
    split at e
    · rename_i hj
      cases e
      obtain ⟨r,A',fr2⟩:=fr1.looks hl ld
      obtain ⟨v,rfl,r'⟩:=r.one
      cases r'
      exact ⟨j,rfl,by omega,by omega,q B _ _ (Same.refl _) ⟨F,A',fr2⟩ jS⟩
    · cases e
  · cases e
theorem kQ (hg:Gl X "range") (hm:X.mg "range"=none) (ha:AX X [e,e2] m g) (hs:starEach [e,e2] X.env=[(false,eval e X.env),(false,eval e2 X.env)]:=by rfl) (hs2:starEach [e2] X.env=[(false,eval e2 X.env)]:=by rfl):IX X tg (.Call (.Name "range" p) [e,e2] [] pos) m (jQ g):=jR (ko hg hm ha hs hs2) fun σ H R z=>by
  obtain ⟨B,E,xs,Xs,ds,E',fr,cl,e,q⟩:=z
  obtain ⟨⟨rs,E1⟩,e1,e⟩:=Option.bind_eq_some_iff.mp e
  refine ⟨B,E,xs,Xs,rs,E1,fr,cl,e1,fun vs H1 hl ⟨F,A,fr1⟩=>?_⟩
  simp only at e
  split at e
  · rename_i i j ld
    split at e
    · rename_i hj
      cases e
      obtain ⟨r,A',fr2⟩:=fr1.looks hl ld
      obtain ⟨v,u,rfl,r1,r2⟩:=r.two
      cases r1;cases r2
      exact ⟨i,j,rfl,by omega,q B _ _ (Same.refl _) ⟨F,A',fr2⟩ jS⟩
    · cases e
  · cases e
end
def bg (tg:gj) (body:c9):List PyData→c9
  | [],E=>some (E, .nx)
  | d::ds,E=>((tg d E).bind body).bind fun a=>match a.2 with
    | .nx=>bg tg body ds a.1
    | .ct=>bg tg body ds a.1
    | .bk=>some (a.1, .nx)
    | .rt r=>some (a.1, .rt r)
def eK (it:iZ) (tg:gj) (body:c9):c9:=fun E=>(it E).bind fun a=>bg tg body a.1 a.2
theorem dQ {X:Cx} {tg iter:Expr} {body:List Stmt} {m:Bool} {it:iZ} {g:gj} {b:c9} {pos:Pos} (hp:PassesOwn (model X.prog X.w) X.A X.env X.xe) (hc:X.calm=true) (hi:IX X tg iter m it) (hg:GX X tg g) (hb:vi X body b)
    (hs:∀x,foldedSetIterable iter X.env x=pure x:=by intro _;rfl):SX X (.For tg iter body [] pos) (eK it g b):=gc (jz hp hc hi hg hb hs) fun D σ H z=>by
  obtain ⟨B,E,xs,Xs,E',fl,fr,cl,e,q⟩:=z
  obtain ⟨⟨ds,E1⟩,e1,e⟩:=Option.bind_eq_some_iff.mp e
  refine ⟨B,E,xs,Xs,ds,E1,fr,fun _=>Calm.nil cl,e1,fun B' J H1 hB fr1 ok=>?_⟩
  refine ⟨fun i mm σ' H'=>mm=ds.length - i∧i≤ds.length∧∃Ei,bg g b (ds.drop i) Ei=some (E',fl)∧Frm X.K B' σ' H' Ei xs Xs,⟨ds.length,by simp,Nat.zero_le _,E1,by simpa using e,fr1⟩,?_⟩
  rintro i mm σ' H' ⟨rfl,hi,Ei,ei,F,A,fri⟩
  obtain ⟨go,stop⟩:=ok i (Same.refl _) fri
  by_cases hlt:i < ds.length
  · obtain ⟨d,ed⟩:∃d,ds[i]? =some d:=⟨ds[i],List.getElem?_eq_getElem hlt⟩
    obtain ⟨g1,yl⟩:=go d ed
    have edr:ds.drop i=d::ds.drop (i+1):=by
      rw [List.drop_eq_getElem_cons hlt]
      congr 1
      exact Option.some.inj ((List.getElem?_eq_getElem hlt).symm.trans ed)
    rw [edr] at ei
    obtain ⟨⟨E2,f2⟩,e2,ei⟩:=Option.bind_eq_some_iff.mp ei
    obtain ⟨E3,e3,e2⟩:=Option.bind_eq_some_iff.mp e2
    refine .inr ⟨g1,fun σ2 H2=>∃Ej,bg g b (ds.drop (i+1)) Ej=some (E',fl)∧Frm X.K B' σ2 H2 Ej xs Xs,fun σ2 H2 ⟨Ej,ej,frj⟩=>⟨ds.length - (i+1),by omega,rfl,hlt,Ej,ej,frj⟩,fun x H2 y=>?_⟩
    refine ⟨B',Ei,xs,Xs,d,E3,yl x H2 y,Still.nil cl,e3,fun σ3 H3 fr3=>?_⟩
    refine ⟨B',E3,xs,Xs,E2,f2,fr3,cl,e2,?_⟩
    cases f2 with
    | nx=>exact fun σ4 H4 fr4=>⟨E2,ei,fr4⟩
    | ct=>exact fun σ4 H4 fr4=>⟨E2,ei,fr4⟩
    | bk=>cases ei;exact fun σ4 H4 fr4=>q _ _ (fr4.base hB)
    | rt r=>cases ei;exact fun σ4 v H4 fr4=>q _ _ _ (fr4.base hB)
  · have e0:i=ds.length:=by omega
    refine .inl ⟨stop e0,?_⟩
    rw [e0,List.drop_length] at ei
    cases ei
    exact q _ _ (Frm.base ⟨F,A,fri⟩ hB)
def cM:Sl→Bool
  | .sh d=>cJ d
  | .ow ds=>aO ds
  | .tx ps=>ps.all fun p=>match p with | .fl d=>cJ d | .ol ds=>aO ds
  | .od kvs=>kvs.all fun p=>aO p.2
  | _=>false
def cA (n:Nat) (ds:List PyData):List Sl:=ds.map .sh++List.replicate (n - ds.length) .no
def dC (r:Sl):Option Sl:=if cM r then some r else match r with
  | .sh d=>some (.br d)
  | .ow ds=>some (.br (.list ds))
  | .tx ps=>some (.br (.tuple (ps.map Pt.val)))
  | .br d=>some (if cJ d then .sh d else .br d)
  | _=>none
def je (n:Nat) (g:c9):List PyData→Option Sl:=fun ds=>(g (cA n ds)).bind fun a=>match a.2 with
  | .rt r=>dC r
  | .nx=>some (.sh .none)
  | _=>none
section
variable {K:PySem.W.Frag} {B F:Hp} {A:List Addr} {σ:iy} {H:Hp} {E:List Sl} {v:V} {r:Sl}
theorem DlOk.cold {F H:Hp} (sF:Same F H):∀{us:List (bu×V)} {kvs:List (bu×List PyData)} {A:List Addr},(∀p∈kvs,aO p.2=true)→DlOk K F H us kvs A→DlOk K (tups H) H us kvs A
  | [],[],A,_,h=>h
  | p::us,q::kvs,A,c,h=>by
    obtain ⟨l,vs,A',rfl,rfl,hl,hr,k⟩:=h
    exact ⟨l,vs,A',rfl,rfl,hl,(hr.same sF).cold (c q (List.mem_cons_self ..)),DlOk.cold sF (fun p hp=>c p (List.mem_cons_of_mem _ hp)) k⟩
  | [],_::_,_,_,h=>False.elim h
  | _::_,[],_,_,h=>False.elim h
theorem PtsOk.cold {F H G:Hp} (sF:Same F H) (tG:∀{v:V} {d:PyData},Rp K F v d→cJ d=true→Rp K G v d):∀{vs:List V} {ps:List Pt} {A:List Addr},(∀p∈ps,(match p with | .fl d=>cJ d | .ol ds=>aO ds)=true)→PtsOk K F H vs ps A→PtsOk K G H vs ps A
  | [],[],A,_,h=>h
  | v::vs, .fl d::ps,A,c,h=>⟨tG h.1 (c (.fl d) (List.mem_cons_self ..)),PtsOk.cold sF tG (fun p hp=>c p (List.mem_cons_of_mem _ hp)) h.2⟩
  | v::vs, .ol ds::ps,A,c,h=>by
    obtain ⟨l,us,A',rfl,rfl,hl,hr,q⟩:=h
    refine ⟨l,us,A',rfl,rfl,hl,?_,q.cold sF tG fun p hp=>c p (List.mem_cons_of_mem _ hp)⟩
    have cd:aO ds=true:=c (.ol ds) (List.mem_cons_self ..)
    have key:∀{us:List V} {ds:List PyData},RpA K F us ds→aO ds=true→RpA K G us ds:=fun {us ds} r c=>by
      induction us generalizing ds with
      | nil=>cases r;exact .nil
      | cons u us ih=>
        cases r with
        | cons r1 r2=>
          simp only [aO,Bool.and_eq_true] at c
          exact .cons (tG r1 c.1) (ih r2 c.2)
    exact key hr cd
  | [],_::_,_,_,h=>False.elim h
  | _::_,[],_,_,h=>False.elim h
theorem FrF.result (h:FrF K B F A σ H E [v] [r]) (c:cM r=true):Same B H∧ql K B H v r:=by
  refine ⟨h.bf.trans h.fh,?_⟩
  have nB:∀a,F a=none→B a=none:=fun a e=>h.bf.free e
  have cold:∀{v:V} {d:PyData},Rp K F v d→cJ d=true→Rp K (tups H) v d:=fun r f=>(r.same h.fh).cold f
  obtain ⟨v',A1,ev,hs⟩:=h.ext (k:=0) rfl
  cases ev
  obtain ⟨o,C0,C1,C2,eA,eo,hp,_⟩:=h.sl.at (k:=0) (s:=r) rfl
  cases eo
  have sub:∀a∈C1,F a=none:=fun a ha=>h.fr a (by rw [eA];simp [ha])
  have nd:C1.Nodup:=by
    have:=h.nd
    rw [eA] at this
    exact (List.nodup_append.mp (List.nodup_append.mp this).2.1).1
  cases r with
  | sh d=>obtain ⟨_,w,ew,r⟩:=hp;cases ew;exact cold r c
  | ow ds=>
    obtain ⟨l,vs,el,rfl,hl,r⟩:=hp
    cases el
    exact ⟨l,vs,rfl,nB l (sub l (by simp)),hl,(r.same h.fh).cold c⟩
  | tx ps=>
    obtain ⟨t,vs,et,ht,r⟩:=hp
    cases et
    exact ⟨t,vs,C1,rfl,gA (h.fh _ _ ht) rfl,nd,fun a ha=>nB a (sub a ha),r.cold h.fh cold (by simpa [cM,List.all_eq_true] using c)⟩
  | no=>cases c
  | od kvs=>
    obtain ⟨l,us,A',el,rfl,hl,r⟩:=hp
    cases el
    exact ⟨l,us,A',rfl,nd,fun a ha=>nB a (sub a ha),hl,r.cold h.fh (by simpa [cM,List.all_eq_true] using c)⟩
  | oi kvs=>cases c
  | al i=>cases c
  | br d=>cases c
theorem FrF.resultO {r':Sl} (h:FrF K B F A σ H E [v] [r]) (c:dC r=some r'):Same B H∧ql K B H v r':=by
  unfold dC at c
  split at c
  · rename_i hc
    cases c
    exact h.result hc
  · refine ⟨h.bf.trans h.fh,?_⟩
    cases r with
    | sh d=>cases c;exact (h.look0 (d:=d) rfl).1
    | ow ds=>cases c;exact (h.look0 (d:= .list ds) rfl).1
    | tx ps=>cases c;exact (h.look0 (d:= .tuple (ps.map Pt.val)) rfl).1
    | br d=>
      have r:=(h.look0 (d:=d) rfl).1
      simp only at c
      split at c
      · rename_i hf
        cases c
        exact r.cold hf
      · cases c
        exact r
    | no=>cases c
    | od kvs=>cases c
    | oi kvs=>cases c
    | al i=>cases c
theorem qp {N:List Str} {vs:List V} {ds:List PyData} (r:RpA K H vs ds) (hn:ds.length≤N.length):FrF K H H [] (L2.start N vs) H (cA N.length ds) [] []:=by
  refine ⟨Same.refl _,Same.refl _,iA H,?_,List.nodup_nil,fun a ha=>(by cases ha),rfl,?_⟩
  · have l:=r.len
    unfold L2.start cA
    rw [l]
    generalize N.length - ds.length=k
    have base:∀τ:iy,SAll (SlOk K H H τ) (List.replicate k none) (List.replicate k .no) []:=fun τ=>by
      induction k with
      | zero=>exact .nil
      | succ k ih=>exact .cons (A:=[]) rfl ih
    have key:∀(τ:iy) {us:List V} {es:List PyData},RpA K H us es→SAll (SlOk K H H τ) (us.map some++List.replicate k none) (es.map .sh++List.replicate k .no) []:=fun τ us es r=>by
      induction us generalizing es with
      | nil=>cases r;exact base τ
      | cons u us ih=>
        cases r with
        | cons r1 r2=>exact .cons (A:=[]) ⟨rfl,_,rfl,r1⟩ (ih _ r2)
    exact key _ r
  · intro s hs
    unfold cA at hs
    rcases List.mem_append.mp hs with hs | hs
    · obtain ⟨d,_,rfl⟩:=List.mem_map.mp hs
      rfl
    · rw [(List.mem_replicate.mp hs).2]
      rfl
end
def g4 (k n:Nat) (g:c9):List PyData→Option Sl:=fun ds=>if ds.length=k then je n g ds else none
theorem iE {P:Program} {w:World} {K:PySem.W.Frag} {mg:Str→Option Value} {base:Heap} {x:Str} {st:Stmt} {N ps:List Str} {k a n:Nat} {g:c9} (D:Def K mg x st ps) (S:FnScope N ps (aj st)) (hpa:ps.length=a) (hNn:N.length=n) (hps:a≤n)
    (hbody:∀(f:Addr) (cdv:Value) (A:Around) (outer:List Env) (s:Shared) (H:Hp) (E:XK),Room k (A.deeper (PyProof.Rows.envOfC x (aj st) s.heap.objs.size f cdv))→
      vi (lB sP P w K mg base N x (aj st) f cdv A outer s H E).nox (cn st) g):Own P w K mg base (k+1) x ps (fG K (g4 a n g)):=by
  subst hpa hNn
  refine D.own S (fun vs H Q E h=>?_) (fun f cdv A outer s H vs Q E hr h=>?_)
  · obtain ⟨ds,r,e,rp,_⟩:=h
    unfold g4 at e
    split at e
    · rename_i hl
      rw [rp.len];exact hl
    · cases e
  obtain ⟨ds,r,e,rp,q⟩:=h
  unfold g4 at e
  split at e
  · rename_i hl
    refine ⟨_,hbody f cdv A outer s H E hr,?_⟩
    obtain ⟨⟨E',fl⟩,e1,e⟩:=Option.bind_eq_some_iff.mp e
    refine ⟨H,cA N.length ds,[],[],E',fl,⟨H,[],qp rp (by omega)⟩,rfl,e1,?_⟩
    cases fl with
    | nx=>
      cases e
      rintro σ' H' ⟨F',A',fr'⟩
      exact q _ _ (fr'.bf.trans fr'.fh) .non
    | bk=>cases e
    | ct=>cases e
    | rt r'=>
      rintro σ' v H' ⟨F',A',fr'⟩
      obtain ⟨s1,s2⟩:=fr'.resultO e
      exact q v H' s1 s2
  · cases e
theorem Bx {P:Program} {w:World} {K:PySem.W.Frag} {mg:Str→Option Value} {base:Heap} {x:Str} {st:Stmt} {N ps:List Str} {k a n:Nat} {g:c9} {f0:Addr} {fd:FuncData} (D:Fun K x x st f0 fd) (S:FnScope N ps (aj st)) (hpa:ps.length=a) (hNn:N.length=n) (hps:a≤n)
    (hbody:∀(cdv:Value) (A:Around) (outer:List Env) (s:Shared) (H:Hp) (E:XK),Room k (A.deeper (PyProof.Rows.envOfC x (aj st) s.heap.objs.size f0 cdv))→
      vi (lB sP P w K mg base N x (aj st) f0 cdv A outer s H E).nox (cn st) g):FnOk P w K mg base sP (k+1) f0 fd ps (fG K (g4 a n g)):=by
  subst hpa hNn
  refine D.ok S (fun vs H Q E h=>?_) (fun cdv A outer s H vs Q E hr h=>?_)
  · obtain ⟨ds,r,e,rp,_⟩:=h
    unfold g4 at e
    split at e
    · rename_i hl
      rw [rp.len];exact hl
    · cases e
  obtain ⟨ds,r,e,rp,q⟩:=h
  unfold g4 at e
  split at e
  · rename_i hl
    refine ⟨_,hbody cdv A outer s H E hr,?_⟩
    obtain ⟨⟨E',fl⟩,e1,e⟩:=Option.bind_eq_some_iff.mp e
    refine ⟨H,cA N.length ds,[],[],E',fl,⟨H,[],qp rp (by omega)⟩,rfl,e1,?_⟩
    cases fl with
    | nx=>
      cases e
      rintro σ' H' ⟨F',A',fr'⟩
      exact q _ _ (fr'.bf.trans fr'.fh) .non
    | bk=>cases e
    | ct=>cases e
    | rt r'=>
      rintro σ' v H' ⟨F',A',fr'⟩
      obtain ⟨s1,s2⟩:=fr'.resultO e
      exact q v H' s1 s2
  · cases e
theorem kR {K:PySem.W.Frag} {H:Hp}:∀ns:List Int,RpA K H (ns.map V.int) (ns.map PyData.int)
  | []=> .nil
  | n::ns=> .cons (.int n) (kR ns)
theorem yj {K:PySem.W.Frag} {H:Hp} {a:Addr} {ns:List Int} {c:List PyData→Option Sl} (e:c [.list (ns.map .int)]=some (.sh (.bool true))) (h:SqL K H a (ns.map V.int)):fG K c [.ref a] H (fun v _=>v= .bl true) fun _ _ _=>False:=
  ⟨_,_,e, .cons (.lst h (kR ns)) .nil,fun v H' _ r=>by
    have r':Rp K (tups H') v (.bool true):=r
    cases r'
    rfl⟩
end PL
namespace PL
open PySem L2 Nh
def uf (E:List Sl):Option Nat→Sl
  | none=> .no
  | some j=>match (E[j]?).bind Sl.val with
    | some d=> .sh d
    | none=> .no
def jT (js:List (Option Nat)) (E:List Sl):List Sl:=js.map (uf E)
def cS:gO:=fun E=>some (true,E)
def cr (tg:gj) (cond:gO) (elt:b7):List PyData→List Sl→Option (List PyData)
  | [],_=>some []
  | d::ds,E=>(tg d E).bind fun E1=>(cond E1).bind fun b=>if b.1 then (elt b.2).bind fun c=>(frz c.2 c.1).bind fun e=>(cr tg cond elt ds e.2).map fun r=>e.1::r else cr tg cond elt ds b.2
def cT (js:List (Option Nat)) (it:iZ) (tg:gj) (cond:gO) (elt:b7):b7:=fun E=>(it E).bind fun a=>(cr tg cond elt a.1 (jT js a.2)).bind fun ds=>if aO ds&&decide (ds.length≤1000000) then some (.ow ds,a.2) else none
section
variable {X:Cx} {elt target iter:Expr} {ifs:List Expr} {scope sc:Scope} {cl:List (Str×Addr)} {N:List Str} {pos:Pos} {js:List (Option Nat)} {K:PySem.W.Frag}
theorem ug {B F:Hp} {A:List Addr} {σ:iy} {H:Hp} {E:List Sl} {xs:List V} {Xs:List Sl} (fr:FrF K B F A σ H E xs Xs) (js:List (Option Nat)):FrF K H H [] (slots js σ) H (jT js E) [] []:=by
  refine ⟨Same.refl _,Same.refl _,iA H,?_,List.nodup_nil,fun a ha=>(by cases ha),rfl,fun s hs=>?_⟩
  · have key:∀(τ:iy) (ks:List (Option Nat)),SAll (SlOk K H H τ) (slots ks σ) (jT ks E) []:=fun τ ks=>by
      induction ks with
      | nil=>exact .nil
      | cons j ks ih=>
        refine .cons (A:=[]) ?_ ih
        cases j with
        | none=>exact rfl
        | some j=>
          show SlOk K H H τ _ (match (E[j]?).bind Sl.val with | some d=> .sh d | none=> .no) []
          cases ej:E[j]? with
          | none=>exact rfl
          | some s=>
            cases ev:s.val with
            | none=>simp only [Option.bind_some,ev];exact rfl
            | some d=>
              simp only [Option.bind_some,ev]
              obtain ⟨o,A1,eo,hs⟩:=fr.var ej
              obtain ⟨v,rfl,r,_⟩:=hs.val fr.fh ev
              refine ⟨rfl,v,?_,r⟩
              show (σ[j]?).join=some v
              rw [eo]
              rfl
    exact key _ js
  · obtain ⟨j,_,rfl⟩:=List.mem_map.mp hs
    cases j with
    | none=>rfl
    | some j=>
      simp only [uf]
      split <;> rfl
theorem kS {m2 m3:Bool} {tg:gj} {cond:gO} {el:b7} {tt:TT} (htt:∀σ H Q,rt K m2 cond σ H Q→tt σ H Q) {B B' F:Hp} {A:List Addr} {σ:iy} {H1:Hp} {E1:List Sl} {xs:List V} {Xs:List Sl} {ds rs:List PyData} {J:It} {Q:VK}
    (fr1:FrF K B F A σ H1 E1 xs Xs) (B2:Same B' H1) (ok:nj K B' J ds) (e2:cr tg cond el ds (jT js E1)=some rs) (hc:aO rs=true∧rs.length≤1000000) (q:∀v H',Frm K B σ H' E1 (v::xs) (.ow rs::Xs)→Q v H') (l:Addr) (hl:H1 l=none):
    ∃W:Nat→Nat→iy→Hp→Prop,(∃m,W 0 m (slots js σ) (upd H1 l (.lst [])))∧
  ∀i m σ' H',W i m σ' H'→(J.stop i H'∧Q (.ref l) H')∨(J.go i H'∧∃N:iy→Hp→Prop,(∀σ' H',N σ' H'→∃m',m' < m∧W (i+1) m' σ' H')∧∀x H2,J.yld i H' x H2→rg K tg x σ' H2 fun σ3 H3=>tt σ3 H3 fun b H4=>
    if b=true then rd K m3 el σ3 H4 fun y H5=>∃ys,H5 l=some (.lst ys)∧ys.length < sizeLine∧N σ3 (upd H5 l (.lst (ys++[y]))) else N σ3 H4):=by
  have fr0:=(ug fr1 js).newl (ds:=[]) .nil hl
  refine ⟨fun i mm σ' H'=>mm=ds.length - i∧i≤ds.length∧∃Ei acc bO,cr tg cond el (ds.drop i) Ei=some bO∧rs=acc++bO∧Frm K H1 σ' H' Ei [.ref l] [.ow acc],⟨ds.length,by simp,Nat.zero_le _,_,[],rs,by simpa using e2,rfl,⟨_,_,fr0⟩⟩,?_⟩
  rintro i mm σ' H' ⟨rfl,hi,Ei,acc,bO,ei,er,F',A',fri⟩
  obtain ⟨go,stop⟩:=ok i B2 fri
  by_cases hlt:i < ds.length
  · obtain ⟨d,ed⟩:∃d,ds[i]? =some d:=⟨ds[i],List.getElem?_eq_getElem hlt⟩
    obtain ⟨g1,yl⟩:=go d ed
    have edr:ds.drop i=d::ds.drop (i+1):=by
      rw [List.drop_eq_getElem_cons hlt]
      congr 1
      exact Option.some.inj ((List.getElem?_eq_getElem hlt).symm.trans ed)
    rw [edr] at ei
    obtain ⟨E3,e3,ei⟩:=Option.bind_eq_some_iff.mp ei
    obtain ⟨⟨b,E4⟩,e4,ei⟩:=Option.bind_eq_some_iff.mp ei
    refine .inr ⟨g1,fun σ2 H2=>∃Ej acc bO,cr tg cond el (ds.drop (i+1)) Ej=some bO∧rs=acc++bO∧Frm K H1 σ2 H2 Ej [.ref l] [.ow acc],fun σ2 H2 ⟨Ej,ac,rt,ej,er,frj⟩=>⟨ds.length - (i+1),by omega,rfl,hlt,Ej,ac,rt,ej,er,frj⟩,fun x H2 y=>?_⟩
    have clm:Calm [Sl.ow acc]:=Calm.cons (fun s hs=>absurd hs (by simp)) rfl
    refine ⟨H1,Ei,[.ref l],[.ow acc],d,E3,yl x H2 y,(fun s hs=>by rw [List.mem_singleton.mp hs];rfl),e3,fun σ3 H3 fr3=>htt _ _ _ ?_⟩
    refine ⟨H1,E3,[.ref l],[.ow acc],b,E4,fr3,fun _=>clm,e4,fun H4 fr4=>?_⟩
    cases b with
    | false=>
      rw [if_neg (by decide)]
      exact ⟨E4,acc,bO,ei,er,fr4⟩
    | true=>
      rw [if_pos rfl]
      obtain ⟨⟨s5,E5⟩,e5,ei⟩:=Option.bind_eq_some_iff.mp ei
      obtain ⟨⟨d6,E6⟩,e6,ei⟩:=Option.bind_eq_some_iff.mp ei
      obtain ⟨rest',e7,ei⟩:=Option.map_eq_some_iff.mp ei
      subst ei
      refine ⟨H1,E4,[.ref l],[.ow acc],s5,E5,fr4,fun _=>clm,e5,fun y5 H5 ⟨F5,A5,fr5⟩=>?_⟩
      obtain ⟨F6,A6,fr6⟩:=fr5.frz0 e6
      obtain ⟨v',C1,ev,rfl,w,ew,ry⟩:=fr6.ext (k:=0) rfl
      cases ev;cases ew
      obtain ⟨A7,fr7⟩:=fr6.pop
      -- the list under way is the one part that owns
      obtain ⟨bf,fh,tf,sl,nd,frn,len,pl⟩:=fr7
      generalize hT:List.map some [V.ref l]++σ3=T at sl
      generalize hS:[Sl.ow acc]++E6=S at sl
      cases sl with
      | nil=>cases hS
      | cons q0 r0=>
        injection hT with h1 hT
        injection hS with h2 hS
        subst h1 h2 hT hS
        obtain ⟨l',us,el,rfl,hl5,ru⟩:=q0
        cases el
        have lu:=ru.len
        refine ⟨us,hl5,small (by rw [er] at hc;simp at hc;omega),E6,acc++[d6],rest',e7,by rw [er];simp,F6,_,bf,fun b o qb=>?_,?_, .cons (A:=[l]) ⟨l,us++[y5],rfl,rfl,upd_same,ru.snoc ry⟩ (r0.mono fun o s C hs hC qq=>qq.stay (Same.refl _) (fun b hb=>ao fun z=>?_) fun z=>?_),nd,frn,rfl,pl⟩
        · have lF:F6 l=none:=frn l (by simp)
          rw [ao (fun z=>by rw [z,lF] at qb;cases qb)]
          exact fh _ _ qb
        · rw [m5 hl5];exact tf
        · have:=hC b hb
          rw [z] at this
          exact (List.nodup_cons.mp nd).1 this
        · have:=pl s hs
          cases s <;> simp [Sl.isAl,Sl.isBr] at this z
  · have e0:i=ds.length:=by omega
    refine .inl ⟨stop e0,?_⟩
    rw [e0,List.drop_length] at ei
    cases ei
    rw [List.append_nil] at er
    subst er
    obtain ⟨g1,g2⟩:=fri.result hc.1
    exact q _ _ (fr1.told g1 g2)
theorem qr {m m2 m3:Bool} {it:iZ} {tg:gj} {cond:gO} {el:b7} {tt:TT} (htt:∀σ H Q,rt K m2 cond σ H Q→tt σ H Q) {σ:iy} {H:Hp} {Q:VK} (z:rd K m (cT js it tg cond el) σ H Q):jE js (ri K m it) (rg K tg) tt (rd K m3 el) σ H Q:=by
  obtain ⟨B,E,xs,Xs,res,E',fr,cl,e,q⟩:=z
  obtain ⟨⟨ds,E1⟩,e1,e⟩:=Option.bind_eq_some_iff.mp e
  obtain ⟨rs,e2,e⟩:=Option.bind_eq_some_iff.mp e
  simp only at e
  split at e
  · rename_i hc
    cases e
    simp only [Bool.and_eq_true,decide_eq_true_eq] at hc
    exact ⟨B,E,xs,Xs,ds,_,fr,cl,e1,fun B' J H1 hB ⟨F,A,fr1⟩ ok l hl=>kS htt (fr1.base hB) (fr1.bf.trans fr1.fh) ok e2 hc q l hl⟩
  · cases e
def Bj (K:PySem.W.Frag) (m:Bool) (f:iZ):TI:=fun σ H R=>∃B E xs Xs ds E',Frm K B σ H E xs Xs∧(m=true→Calm Xs)∧f E=some (ds,E')∧∀J H',Frm K B σ H' E' xs Xs→nj K H' J ds→R J H'
def Bk (X:Cx) (tg e:Expr) (m:Bool) (f:iZ):Prop:=PI X tg e (Bj X.K m f)
theorem uh {m m2 m3:Bool} {it:iZ} {tg:gj} {cond:gO} {el:b7} {tt:TT} (htt:∀σ H Q,rt K m2 cond σ H Q→tt σ H Q) {σ:iy} {H:Hp} {Q:VK} (z:rd K m (cT js it tg cond el) σ H Q):jE js (Bj K m it) (rg K tg) tt (rd K m3 el) σ H Q:=by
  obtain ⟨B,E,xs,Xs,res,E',fr,cl,e,q⟩:=z
  obtain ⟨⟨ds,E1⟩,e1,e⟩:=Option.bind_eq_some_iff.mp e
  obtain ⟨rs,e2,e⟩:=Option.bind_eq_some_iff.mp e
  simp only at e
  split at e
  · rename_i hc
    cases e
    simp only [Bool.and_eq_true,decide_eq_true_eq] at hc
    exact ⟨B,E,xs,Xs,ds,_,fr,cl,e1,fun J H1 ⟨F,A,fr1⟩ ok l hl=>kS htt fr1 (Same.refl _) ok e2 hc q l hl⟩
  · cases e
theorem uk {m m3:Bool} {it:iZ} {tg:gj} {el:b7} (C:CompOk X scope sc cl N js) (hc:X.calm=true) (hi:IX X target iter m it) (hg:∀C s₀ H₀ fp,GX (X.comp sc cl N C s₀ H₀ fp) target tg) (he:∀C s₀ H₀ fp,EX (X.comp sc cl N C s₀ H₀ fp) elt m3 el)
    (hs:∀x,foldedSetIterable iter X.env x=pure x:=by intro _;rfl):EX X (.ListComp elt [⟨target,iter,[],0⟩] scope pos) m (cT js it tg cS el):=
  bY (lM (g:=rg X.K tg) (te:=rd X.K m3 el) C hc hi hg (fun _ _ _ _=>lL) he hs) fun σ H Q z=>qr (m2:=false) (fun σ H Q z=>by
    obtain ⟨B,E,xs,Xs,b,E',fr,cl,e,q⟩:=z
    cases e
    exact q _ fr) z
def kT (f:b7):iZ:=fun E=>(f E).bind fun a=>match look a.2 a.1 with
  | some (.list ds)=>some (ds,a.2)
  | _=>none
theorem vX {tg e:Expr} {m:Bool} {f:b7} (he:EX X e m f):Bk X tg e m (kT f):=jR (lq he) fun σ H R z=>by
  obtain ⟨B,E,xs,Xs,ds,E',fr,cl,e,q⟩:=z
  obtain ⟨⟨s,E1⟩,e1,e⟩:=Option.bind_eq_some_iff.mp e
  simp only at e
  split at e
  · rename_i ds' ld
    cases e
    refine ⟨B,E,xs,Xs,s,_,fr,cl,e1,fun v H1 ⟨F,A,fr1⟩=>?_⟩
    obtain ⟨r,_⟩:=fr1.look0 ld
    obtain ⟨A',fr2⟩:=fr1.pop
    cases r with
    | lst h1 h2=>exact ⟨_,rfl,⟨_,h1⟩,q _ _ ⟨F,A',fr2⟩ (kP h1 h2)⟩
  · cases e
theorem rT {c:Expr} {m m2 m3:Bool} {it:iZ} {tg:gj} {cond:gO} {el:b7} (C:CompOk X scope sc cl N js) (hc:X.calm=true) (hi:Bk X target iter m it) (hg:∀C s₀ H₀ fp,GX (X.comp sc cl N C s₀ H₀ fp) target tg) (ht:∀C s₀ H₀ fp,TX (X.comp sc cl N C s₀ H₀ fp) c m2 cond) (he:∀C s₀ H₀ fp,EX (X.comp sc cl N C s₀ H₀ fp) elt m3 el)
    (hs:∀x,foldedSetIterable iter X.env x=pure x:=by intro _;rfl):EX X (.ListComp elt [⟨target,iter,[c],0⟩] scope pos) m (cT js it tg cond el):=
  bY (lM (g:=rg X.K tg) (te:=rd X.K m3 el) (tt:=rt X.K m2 cond) C hc hi hg (fun _ _ _ _=>vH (ht _ _ _ _)) he hs) fun σ H Q z=>uh (m2:=m2) (fun _ _ _ z=>z) z
end
end PL
namespace PL
open PySem L2 Nh
section
variable {X:Cx} {elt target iter:Expr} {ifs:List Expr} {scope sc:Scope} {cl:List (Str×Addr)} {N:List Str} {pos:Pos} {js:List (Option Nat)} {K:PySem.W.Frag}
theorem SAll.app {P:Option V→Sl→List Addr→Prop}:∀{os os':List (Option V)} {ss ss':List Sl} {A A':List Addr},SAll P os ss A→SAll P os' ss' A'→SAll P (os++os') (ss++ss') (A++A')
  | _,_,_,_,_,_, .nil,h=>h
  | _,_,_,_,_,_, .cons h r,h'=>by rw [List.append_assoc];exact .cons h (r.app h')
theorem SAll.split {P:Option V→Sl→List Addr→Prop}:∀{os os':List (Option V)} {ss ss':List Sl} {A:List Addr},os.length=ss.length→SAll P (os++os') (ss++ss') A→∃A1 A2,A=A1++A2∧SAll P os ss A1∧SAll P os' ss' A2
  | [],_,[],_,A,_,h=>⟨[],A,rfl, .nil,h⟩
  | o::os,_,s::ss,_,_,l, .cons h r=>by
    obtain ⟨A1,A2,rfl,h1,h2⟩:=SAll.split (os:=os) (ss:=ss) (by simpa using l) r
    exact ⟨_,A2,by rw [List.append_assoc], .cons h h1,h2⟩
  | [],_,_::_,_,_,l,_=>by simp at l
  | _::_,_,[],_,_,l,_=>by simp at l
end
end PL
namespace PL
open PySem L2 Nh
theorem yk {K:PySem.W.Frag} {m:Bool} {i:Nat} {f:b7} {D:Ends} {σ:iy} {H:Hp} (z:rs K (ak i f) D σ H):rd K m f σ H fun v H1=>dL i v σ H1 D.nx:=by
  obtain ⟨B,E,xs,Xs,E',fl,fr,cl,e,q⟩:=z
  obtain ⟨⟨s,E1⟩,e1,e⟩:=Option.bind_eq_some_iff.mp e
  obtain ⟨⟨s',E2⟩,e2,e⟩:=Option.bind_eq_some_iff.mp e
  refine ⟨B,E,xs,Xs,s,E1,fr,fun _=>Calm.nil cl,e1,fun v H1 ⟨F,A,fr1⟩=>?_⟩
  obtain ⟨c1,F2,A2,fr2⟩:=fr1.settle cl e2
  simp only at e
  split at e
  · rename_i hi
    cases e
    obtain ⟨A3,fr3⟩:=fr2.store c1 (Still.nil cl) hi
    exact q _ _ ⟨F2,A3,fr3⟩
  · cases e
section
variable {X:Cx} {elt target iter:Expr} {scope sc:Scope} {cl:List (Str×Addr)} {N:List Str} {pos spos px:Pos} {js:List (Option Nat)} {x:Str}
theorem nk {m m3:Bool} {it:iZ} {tg:gj} {el:b7} (i:Nat) (hN:X.N.Nodup) (C:CompOk X scope sc cl N js) (hc:X.calm=true) (h:IX X target iter m it) (hg:∀C s₀ H₀ fp,GX (X.comp sc cl N C s₀ H₀ fp) target tg) (he:∀C s₀ H₀ fp,EX (X.comp sc cl N C s₀ H₀ fp) elt m3 el)
    (hi:X.N[i]? =some x:=by rfl) (hx:xu X.env.scope x:=by first | exact Or.inl rfl | exact Or.inr rfl) (hf:X.fn x=true∨X.env.scope.names.lookup x=some .local:=by first | exact .inl rfl | exact .inr rfl | assumption)
    (hs:∀x,foldedSetIterable iter X.env x=pure x:=by intro _;rfl) (hsw:swapsWith (.ListComp elt [⟨target,iter,[],0⟩] scope pos) (some (.Name x px)) spos.line X.env=pure true:=by rfl):
    SX X (.Assign [.Name x px] (.ListComp elt [⟨target,iter,[],0⟩] scope pos) spos) (ak i (cT js it tg cS el)):=
  gc (vI (g:=rg X.K tg) (te:=rd X.K m3 el) C hc (eJ hN hi hx hf) h hg (fun _ _ _ _=>lL) he hs hsw) fun D σ H z=>qr (m2:=false) (fun σ H Q z=>by
    obtain ⟨B,E,xs,Xs,b,E',fr,cl,e,q⟩:=z
    cases e
    exact q _ fr) (yk z)
end
end PL
namespace PL
open PySem L2 Nh
theorem cB {α:Type} (xs:List α) (k:Nat):atI xs (k:Int)=xs[k]? :=by
  unfold atI tF
  rw [if_pos (by omega)]
  split
  · simp
  · rw [List.getElem?_eq_none (by omega)];rfl
theorem nn {α:Type} (a:α) (l:List α):atI (a::l) 0=some a:=cB (a::l) 0
theorem nq {α:Type} (a b:α) (l:List α):atI (a::b::l) 1=some b:=cB (a::b::l) 1
theorem ie {α:Type} (l:List α) (a:α):atI (l++[a]) (-1)=some a:=by
  unfold atI tF
  rw [if_neg (by omega),if_pos (by simp;omega)]
  have e:(-1+(((l++[a]).length:Nat):Int)).toNat=l.length:=by simp;omega
  rw [e]
  simp
theorem ul {α:Type} {xs:List α} {i:Int} (h:0≤i):atI xs i=xs[i.toNat]? :=by
  have e:i=((i.toNat:Nat):Int):=by omega
  rw [e,cB,Int.toNat_natCast]
theorem lY {α:Type} (l:List α) (a:α):(l++[a])[(l++[a]).length - 1]? =some a:=by simp
theorem jm {α:Type} (l:List α) (a:α):(l++[a]).isEmpty=false:=by cases l <;> rfl
theorem kU:∀{a:List PyData},(∀d∈a,cJ d=true)→aO a=true
  | [],_=>rfl
  | x::a,h=>by simp [aO,h x (List.mem_cons_self ..),kU fun d hd=>h d (List.mem_cons_of_mem _ hd)]
theorem kW {α:Type} {f:α→PyData} (h:∀a,cJ (f a)=true) (l:List α):aO (l.map f)=true:=kU fun d hd=>by
  obtain ⟨a,_,rfl⟩:=List.mem_map.mp hd
  exact h a
theorem vY (p:Pc):cJ (aw p)=true:=rfl
theorem cC (c:List Pc):aO (c.map aw)=true:=kW vY c
theorem rV (l:List Int):aO (l.map PyData.int)=true:=kW (fun _=>rfl) l
def cutL {α:Type} (l:List α) (lo hi:Option Int):List α:=(l.drop (HT.jb l.length 0 lo)).take (HT.jb l.length l.length hi - HT.jb l.length 0 lo)
theorem gm {α:Type} (f:α→PyData) (l:List α) (lo hi:Option Int):oV (l.map f) lo hi=(cutL l lo hi).map f:=by
  unfold oV cutL
  rw [List.length_map,List.map_take,List.map_drop]
theorem jU {α:Type} (l:List α) (lo hi:Option Int):(cutL l lo hi).length≤l.length:=by
  unfold cutL
  rw [List.length_take,List.length_drop]
  omega
theorem iF {α:Type} (l:List α) {m:Int} (h:0≤m):((cutL l none (some m)).length:Int)≤m:=by
  unfold cutL
  have e:m=((m.toNat:Nat):Int):=by omega
  have z:HT.jb l.length l.length (some m)≤m.toNat:=by
    rw [e,HT.p7,Int.toNat_natCast]
    exact Nat.min_le_left _ _
  rw [List.length_take,List.length_drop]
  omega
theorem rW {α:Type} (l:List α) {k:Int} (h0:0≤k):cutL l none (some k)=l.take k.toNat:=by
  have e:k=((k.toNat:Nat):Int):=by omega
  have z:∀d,HT.jb l.length d (some k)=min k.toNat l.length:=fun d=>by
    rw [e,HT.p7,Int.toNat_natCast]
  unfold cutL
  rw [z,HT.tD,List.drop_zero,Nat.sub_zero]
  rcases Nat.le_total k.toNat l.length with h | h
  · rw [Nat.min_eq_left h]
  · rw [Nat.min_eq_right h,List.take_length,List.take_of_length_le h]
theorem nr {α:Type} {l:List α} {lo hi:Option Int} {x:α} (h:x∈cutL l lo hi):x∈l:=List.mem_of_mem_drop (List.mem_of_mem_take h)
theorem eP (lo:Int) (n:Nat):gl lo (n+1)= .int lo::gl (lo+1) n:=by
  unfold gl
  rw [List.range_succ_eq_map,List.map_cons,List.map_map]
  simp only [Int.natCast_zero,Int.add_zero]
  congr 1
  refine List.map_congr_left fun k _=>?_
  show PyData.int (lo+((k+1:Nat):Int))=PyData.int (lo+1+(k:Int))
  congr 1
  omega
end PL
namespace L2
open PySem PySem.Spec PyProof.Rows
section
variable {X:Cx} {pins:List (Addr×Obj)} {σ:L2.St} {H:Hp} {s:Shared} {h':Heap}
theorem Inv.turnedL {t':Nat} {fp:List Addr} (I:Inv X pins σ H s) (k:∀b o,b∉fp→s.heap.get? b=some o→h'.get? b=some o) (hf:∀b∈fp,kb X pins H b):Inv X pins σ H {s with heap:=h',toks:=t'}:=by
  have nit:∀b u,H b=some u→b∉fp:=fun b u e z=>by rw [(hf b z).1] at e;cases e
  refine I.step (g':=s.gens) (d':=s.drawn) (ch:=fp) (fun b hb=>?_) (fun b o _ _ hc e _=>k b o hc e) (fun b o _ _ hc e _=>⟨o.slots,k b o hc e⟩) (fun _ _ _ _ n=>n)
    (fun b o hc e=>⟨o,k b o hc e⟩) (fun _ _ e=>e) (fun _ _ _ e=>e) (fun _ _ e=>e) (fun m hm=>?_) (fun b u e=>?_) I.bare
  · obtain ⟨f0,f1,f2,f3,f4,f5⟩:=hf b hb
    exact ⟨f3,f1,f4,f5⟩
  · obtain ⟨o,es,ep,ho,r⟩:=hm
    exact ⟨o,es,ep,k _ o (fun z=>(hf _ z).2.1 rfl) ho,r⟩
  · refine (I.hok b u e).stay (fun c v hc q=>k c v ?_ q) (fun _ q=>q) fun _ _ q=>q
    rcases hc with z | z
    · rw [z];exact nit b u e
    · exact nit c _ z
theorem o4 {h:Heap} {o o':Obj} {c:Addr} (hc:c≠h.objs.size) (e:(h.push o').get? c=some o):h.get? c=some o:=(Heap.get?_push_cases e).elim (fun z=>absurd z.1 hc) id
theorem um {t':Nat} {us:List Value} {vs:List V} (I:Inv X pins σ H s) (r:Vals vs us) (hz:vs.length≤sizeLine):
    Inv X pins σ (upd H s.heap.objs.size (.tup vs)) {s with heap:=s.heap.push {cls:= .type "tuple",data:= .seq us.toArray},toks:=t'}:=
  I.laid (fun b u e=>Heap.get?_push_of_some _ e) (Nat.le_refl _) ⟨hz,us,r,⟨_,Heap.get?_push_size _ rfl,rfl,_,rfl⟩⟩
end
def Ap (x:Str):It:=⟨fun i _=>i < x.cps.toList.length,fun i H v H'=>H'=H∧∃c,x.cps.toList[i]? =some c∧v= .str ⟨#[c]⟩,fun i _=>i=x.cps.toList.length⟩
theorem uo {P:Program} {w:World} {K:PySem.W.Frag} {tg:Expr} {it:Addr} {T:String} {x:Str} {t:Tok} (hT:T="str_ascii_iterator"∨T="str_iterator"):Turn P w K tg (Ap x) [it] it (fun i h=>h.IsStrIter it T x t i) where
  mem:=by simp
  obj:=fun i h st b hb=>by
    have e:b=it:=by simpa using hb
    subst e
    obtain ⟨o,e,c,d⟩:=st
    exact ⟨o,e,fun v z=>by rw [d] at z;cases z⟩
  keep:=fun i h h' st k=>let ⟨o,ho,r⟩:=st;⟨o,k it (by simp) o ho,r⟩
  item:=by
    intro X hP hw hK hc i pins s σ H E I hf st hg
    subst hP hw hK
    obtain ⟨f0,f1,f2,f3,f4,f5⟩:=hf it (by simp)
    have hi:i < x.cps.toList.length:=hg
    have hx:x.cps[i]? =some (x.cps.toList[i]'hi):=by simp at hi;simp [hi]
    have fin:∀(h':Heap),h'.IsStrIter it T x t (i+1)→Heap.SameBut it s.heap h'→∃u,some (Value.str ⟨#[x.cps.toList[i]'hi]⟩ s.toks)=some u∧
        wpAny (model X.prog X.w) X.A (letOwnedTupleGo tg (.ref it) u) (fun _ s2=>∃v H',Inv X pins σ H' s2∧RelV v u∧(Ap x).yld i H v H'∧s2.heap.IsStrIter it T x t (i+1)∧∀b∈[it],H' b=none) E {s with heap:=h',toks:=s.toks+1}:=fun h' st' sb=>by
      have I1:Inv X pins σ H {s with heap:=h',toks:=s.toks+1}:=I.turned (t':=s.toks+1) (fun b o hb e=>(sb.2 b hb).trans e) f0 f1 f3 f4 f5
      obtain ⟨o,e,c,d⟩:=id st'
      exact ⟨_,rfl,kl (s:={s with heap:=h',toks:=s.toks+1}) e c d (by rcases hT with rfl | rfl <;> decide) ⟨.str ⟨#[x.cps.toList[i]'hi]⟩,H,I1,⟨_,rfl⟩,⟨rfl,_,List.getElem?_eq_getElem hi,rfl⟩,st',fun b hb=>(hf b hb).1⟩⟩
    rcases hT with rfl | rfl
    · exact wpAny_pyNext_ascii_item st hx fun h' st' sb=>fin h' st' sb
    · exact wpAny_pyNext_wide_item st hx fun h' st' sb=>fin h' st' sb
  done:=by
    intro X hP hw hK hc i pins s σ H E I hf st hg
    subst hP hw hK
    obtain ⟨f0,f1,f2,f3,f4,f5⟩:=hf it (by simp)
    have hi:i=x.cps.toList.length:=hg
    have hx:x.cps[i]? =none:=by simp at hi;simp [hi]
    rcases hT with rfl | rfl
    · exact wpAny_pyNext_ascii_end (I.ok.hd hc) st hx fun h' eb=>⟨rfl,I.turned (t':=s.toks) (fun b o hb e=>eb b o hb e) f0 f1 f3 f4 f5⟩
    · exact wpAny_pyNext_wide_end (I.ok.hd hc) st hx fun h' eb=>⟨rfl,I.turned (t':=s.toks) (fun b o hb e=>eb b o hb e) f0 f1 f3 f4 f5⟩
  self:=fun _ _ _ _ _ st h=>by
    rcases hT with rfl | rfl
    · exact wpAny_pyIter_striter_ascii st h
    · exact wpAny_pyIter_striter_wide st h
def AV (tl:TE):TI:=fun σ H R=>tl σ H fun v H1=>∃x,v= .str x∧R (Ap x) H1
theorem ym {X:Cx} {tg l:Expr} {tl:TE} (hl:PE X l tl):PI X tg l (AV tl):=by
  intro pins s σ H R I h
  refine bQ (hl pins s σ H _ I h) fun v s1 ⟨y,H1,I1,r1,q1⟩=>?_
  obtain ⟨x,e,q⟩:=q1
  subst e
  obtain ⟨t,rfl⟩:=r1
  refine wpAny_pyIter_strU ?_
  refine ⟨s1.heap.objs.size,[s1.heap.objs.size],fun i h=>h.IsStrIter s1.heap.objs.size (strIterType x) x t i,_,H1,rfl,I1.kept (t':=s1.toks) fun b o e=>Heap.get?_push_of_some _ e,uo (t:=t) ?_,⟨_,Heap.get?_push_size _ rfl,rfl,rfl⟩,fun b hb=>?_,q⟩
  · unfold strIterType
    split
    · exact .inl rfl
    · exact .inr rfl
  · have e:b=s1.heap.objs.size:=by simpa using hb
    subst e
    exact I1.fpOk (Nat.le_refl _) (I1.hok.fresh (Nat.le_refl _))
theorem PI.or {X:Cx} {tg l:Expr} {a b:TI} (h1:PI X tg l a) (h2:PI X tg l b):PI X tg l (fun σ H R=>a σ H R∨b σ H R):=by
  intro pins s σ H R I h
  rcases h with h | h
  · exact h1 pins s σ H R I h
  · exact h2 pins s σ H R I h
end L2
namespace PL
open PySem L2 Nh
def lZ (x:Str):List PyData:=x.cps.toList.map fun c=> .str ⟨#[c]⟩
def dZ (f:b7):iZ:=fun E=>(f E).bind fun a=>(frz a.2 a.1).bind fun b=>match b.1 with
  | .list ds=>some (ds,b.2)
  | .tuple ds=>some (ds,b.2)
  | .str x=>some (lZ x,b.2)
  | _=>none
section
variable {X:Cx} {K:PySem.W.Frag} {B:Hp}
theorem ur {x:Str}:nj K B (Ap x) (lZ x):=fun {B' F A σ H E xs Xs} i sB fr=>by
  refine ⟨fun d ed=>?_,fun e=>by show i=x.cps.toList.length;rw [e];simp [lZ]⟩
  unfold lZ at ed
  rw [List.getElem?_map] at ed
  obtain ⟨c,ec,rfl⟩:=Option.map_eq_some_iff.mp ed
  refine ⟨(List.getElem?_eq_some_iff.mp ec).1,fun z H2 ⟨e1,c',e2,e3⟩=>?_⟩
  rw [ec] at e2;cases e2
  subst e1 e3
  exact ⟨F,A,fr.push ⟨rfl,_,rfl, .str _⟩⟩
theorem ut {a:Addr} {vs:List V} {ds:List PyData} (h:SqT K B a vs) (r:RpA K B vs ds):nj K B (AB K a) ds:=fun {B' F A σ H E xs Xs} i sB fr=>by
  have hH:=fr.fh.tup (fr.bf.tup (sB.tup h))
  refine ⟨fun d ed=>?_,fun e=>⟨vs,hH,by rw [e,r.len];exact Nat.le_refl _⟩⟩
  obtain ⟨v,ev,rv⟩:=r.get ed
  refine ⟨⟨vs,v,hH,ev⟩,fun x H2 ⟨e2,y⟩=>?_⟩
  subst e2
  have:=y vs hH
  rw [ev] at this
  cases this
  exact ⟨F,A,fr.push ⟨rfl,_,rfl,rv.same (sB.trans fr.bf)⟩⟩
theorem fM {tg e:Expr} {m:Bool} {f:b7} (he:EX X e m f):IX X tg e m (dZ f):=jR (PI.or (lq he) (PI.or (xG he) (ym he))) fun σ H R z=>by
  obtain ⟨B,E,xs,Xs,ds,E',fr,cl,e,q⟩:=z
  obtain ⟨⟨s,E1⟩,e1,e⟩:=Option.bind_eq_some_iff.mp e
  obtain ⟨⟨d,E2⟩,e2,e⟩:=Option.bind_eq_some_iff.mp e
  have key:∀(v:V) (H1:Hp),Frm X.K B σ H1 E1 (v::xs) (s::Xs)→∃F2 A2 A3,Rp X.K F2 v d∧Same B F2∧FrF X.K F2 F2 A3 σ H1 E2 xs Xs∧FrF X.K B F2 A2 σ H1 E2 (v::xs) (.sh d::Xs):=fun v H1 ⟨F,A,fr1⟩=>by
    obtain ⟨F2,A2,fr2⟩:=fr1.frz0 e2
    obtain ⟨v',A1,ev,rfl,w,ew,r⟩:=fr2.ext (k:=0) rfl
    cases ev;cases ew
    obtain ⟨A3,fr3⟩:=fr2.pop
    exact ⟨F2,A2,A3,r,fr2.bf,fr3.raise,fr2⟩
  simp only at e
  split at e
  · cases e
    refine .inl ⟨B,E,xs,Xs,s,E1,fr,cl,e1,fun v H1 fr1=>?_⟩
    obtain ⟨F2,A2,A3,r,sb,fr3,fr2⟩:=key v H1 fr1
    cases r with
    | lst h1 h2=>exact ⟨_,rfl,⟨_,fr2.fh.seq h1⟩,q F2 _ _ sb ⟨F2,A3,fr3⟩ (kP h1 h2)⟩
  · cases e
    refine .inr (.inl ⟨B,E,xs,Xs,s,E1,fr,cl,e1,fun v H1 fr1=>?_⟩)
    obtain ⟨F2,A2,A3,r,sb,fr3,fr2⟩:=key v H1 fr1
    cases r with
    | tup h1 h2=>exact ⟨_,rfl,⟨_,fr2.fh.tup h1⟩,q F2 _ _ sb ⟨F2,A3,fr3⟩ (ut h1 h2)⟩
  · cases e
    refine .inr (.inr ⟨B,E,xs,Xs,s,E1,fr,cl,e1,fun v H1 fr1=>?_⟩)
    obtain ⟨F2,A2,A3,r,sb,fr3,fr2⟩:=key v H1 fr1
    cases r
    exact ⟨_,rfl,q F2 _ _ sb ⟨F2,A3,fr3⟩ ur⟩
  · cases e
end
def b4 (c:gO) (g:c9):Nat→c9
  | 0,_=>none
  | n+1,E=>(c E).bind fun a=>if a.1 then (g a.2).bind fun b=>(match b.2 with
      | .nx=>b4 c g n b.1
      | .ct=>b4 c g n b.1
      | .bk=>some (b.1, .nx)
      | .rt r=>some (b.1, .rt r)) else some (a.2, .nx)
open Classical in
def iG (c:gO) (g:c9):c9:=fun E=>if h:∃n r,b4 c g n E=some r then some h.choose_spec.choose else none
theorem fN (c:gO) (g:c9):∀{n:Nat} {E:List Sl} {r:List Sl×Fl},b4 c g n E=some r→b4 c g (n+1) E=some r
  | n+1,E,r,h=>by
    obtain ⟨a,e1,h⟩:=Option.bind_eq_some_iff.mp h
    rw [b4,e1,Option.bind_some]
    cases ha:a.1 with
    | false=>rw [ha] at h;exact h
    | true=>
      rw [ha] at h
      obtain ⟨b,e2,h⟩:=Option.bind_eq_some_iff.mp h
      rw [if_pos rfl,e2,Option.bind_some]
      cases hb:b.2 with
      | nx=>rw [hb] at h;exact fN c g h
      | ct=>rw [hb] at h;exact fN c g h
      | bk=>rw [hb] at h;exact h
      | rt r=>rw [hb] at h;exact h
theorem jV (c:gO) (g:c9) {n m:Nat} {E:List Sl} {r:List Sl×Fl} (h:b4 c g n E=some r) (hl:n≤m):b4 c g m E=some r:=by
  induction hl with
  | refl=>exact h
  | step _ ih=>exact fN c g ih
theorem rX {c:gO} {g:c9} {n:Nat} {E:List Sl} {r:List Sl×Fl} (h:b4 c g n E=some r):iG c g E=some r:=by
  have ex:∃n r,b4 c g n E=some r:=⟨n,r,h⟩
  unfold iG
  rw [dif_pos ex]
  have e:=ex.choose_spec.choose_spec
  have a:=jV c g e (Nat.le_max_left ex.choose n)
  have b:=jV c g h (Nat.le_max_right ex.choose n)
  rw [a] at b
  exact b
theorem uu {X:Cx} {c:Expr} {body:List Stmt} {m:Bool} {t:gO} {b:c9} {pos:Pos} (hp:PassesOwn (model X.prog X.w) X.A X.env X.xe) (hc:TX X c m t) (hb:vi X body b):SX X (.While c body [] pos) (iG t b):=gc (sV hp hc hb) fun D σ H z=>by
  obtain ⟨B,E,xs,Xs,E',fl,fr,cl,e,q⟩:=z
  unfold iG at e
  split at e
  · rename_i ex
    have e0:=ex.choose_spec.choose_spec
    rw [Option.some.inj e] at e0
    refine ⟨fun n σ' H'=>∃E1,b4 t b n E1=some (E',fl)∧Frm X.K B σ' H' E1 xs Xs,⟨_,E,e0,fr⟩,?_⟩
    rintro n σ' H' ⟨E1,e1,fr1⟩
    cases n with
    | zero=>cases e1
    | succ n=>
      obtain ⟨⟨b1,E2⟩,e2,e1⟩:=Option.bind_eq_some_iff.mp e1
      refine ⟨B,E1,xs,Xs,b1,E2,fr1,fun _=>Calm.nil cl,e2,fun H2 fr2=>?_⟩
      cases b1 with
      | false=>
        cases e1
        exact (if_neg (by decide)).mpr (q _ _ fr2)
      | true=>
        refine (if_pos rfl).mpr ?_
        obtain ⟨⟨E3,f3⟩,e3,e1⟩:=Option.bind_eq_some_iff.mp e1
        refine ⟨fun σ4 H4=>∃E1,b4 t b n E1=some (E',fl)∧Frm X.K B σ4 H4 E1 xs Xs,fun σ4 H4 z=>⟨n,Nat.lt_succ_self _,z⟩,B,E2,xs,Xs,E3,f3,fr2,cl,e3,?_⟩
        cases f3 with
        | nx=>exact fun σ4 H4 fr4=>⟨E3,e1,fr4⟩
        | ct=>exact fun σ4 H4 fr4=>⟨E3,e1,fr4⟩
        | bk=>cases e1;exact fun σ4 H4 fr4=>q _ _ fr4
        | rt r=>cases e1;exact fun σ4 v H4 fr4=>q _ _ _ fr4
  · cases e
end PL
namespace PL
open PySem L2 Nh
inductive Cm where
  | lt | le | gt | ge
def Cm.op:Cm→CmpOp
  | .lt=> .Lt
  | .le=> .LtE
  | .gt=> .Gt
  | .ge=> .GtE
def Cm.i:Cm→Int→Int→Bool
  | .lt,i,j=>decide (i < j)
  | .le,i,j=>decide (i≤j)
  | .gt,i,j=>decide (j < i)
  | .ge,i,j=>decide (j≤i)
def Cm.s:Cm→List Nat→List Nat→Bool
  | .lt,i,j=>decide (i < j)
  | .le,i,j=> !decide (j < i)
  | .gt,i,j=>decide (j < i)
  | .ge,i,j=> !decide (i < j)
def dR (c:Cm):PyData→PyData→Option PyData
  | .int i, .int j=>some (.bool (c.i i j))
  | .str x, .str y=>some (.bool (c.s x.cps.toList y.cps.toList))
  | _,_=>none
def Bl (c:Cm):R2:=fun x y H Q=>(∃i j,x= .int i∧y= .int j∧Q (.bl (c.i i j)) H)∨(∃i j,x= .str i∧y= .str j∧Q (.bl (c.s i.cps.toList j.cps.toList)) H)
section
variable {X:Cx} {a b c:Expr} {m1 m2 m3:Bool} {f g h:b7} {pos:Pos} {K:PySem.W.Frag}
theorem qu (c:Cm):OpR X (compareOp c.op) (Bl c):=by
  cases c with
  | lt=>exact OpR.or zg rC
  | le=>exact OpR.or zh (fun pins s σ H x y v u Q I rx ry h=>by
      obtain ⟨i,j,rfl,rfl,q⟩:=h
      obtain ⟨t,rfl⟩:=rx
      obtain ⟨t',rfl⟩:=ry
      exact PySem.P.le_str (aJ I q rfl))
  | gt=>exact OpR.or zi (fun pins s σ H x y v u Q I rx ry h=>by
      obtain ⟨i,j,rfl,rfl,q⟩:=h
      obtain ⟨t,rfl⟩:=rx
      obtain ⟨t',rfl⟩:=ry
      exact PySem.P.gt_str (aJ I q rfl))
  | ge=>exact OpR.or zj (fun pins s σ H x y v u Q I rx ry h=>by
      obtain ⟨i,j,rfl,rfl,q⟩:=h
      obtain ⟨t,rfl⟩:=rx
      obtain ⟨t',rfl⟩:=ry
      exact PySem.P.ge_str (aJ I q rfl))
theorem qv (c:Cm):rO K (Bl c) (dR c):=fun d1 d2 d v1 v2 H Q e r1 r2=>by
  unfold dR at e
  split at e
  · cases e;cases r1;cases r2
    exact ⟨_,rfl,fun q=> .inl ⟨_,_,rfl,rfl,q⟩⟩
  · cases e;cases r1;cases r2
    exact ⟨_,rfl,fun q=> .inr ⟨_,_,rfl,rfl,q⟩⟩
  · cases e
theorem kX (c:Cm) (b:Expr):behindInMarks c.op b=false:=by cases c <;> exact jA _
theorem zK (c:Cm) (ha:EX X a m1 f) (hb:EX X b m2 g):EX X (.Compare a [c.op] [b] pos) (m1||m2) (af (dt (dR c)) m2 f g):=x8 (qu c) (iC (qv c)) ha hb (kX c b)
theorem nt (c:Cm) (ha:EX X a m1 f) (hb:EX X b m2 g):TX X (.Compare a [c.op] [b] pos) (m1||m2) (cZ (af (dt (dR c)) m2 f g)):=lS (qu c) (iC (qv c)) ha hb (kX c b)
theorem zL (c1 c2:Cm) (ha:EX X a m1 f) (hb:EX X b m2 g) (hc:EX X c m3 h) (hm:lastMarks [c1.op,c2.op] [b,c]=false:=by with_unfolding_all rfl):TX X (.Compare a [c1.op,c2.op] [b,c] pos) (m1||(m2||m3)) (cZ (gf (dR c1) (dR c2) m2 m3 f g h)):=tV (qu c1) (qu c2) (qv c1) (qv c2) ha hb hc hm
def isInt:PyData→Option Int
  | .int x=>some x
  | _=>none
def iH:List PyData→Option (List Str)
  | []=>some []
  | .str x::ds=>(iH ds).map fun xs=>x::xs
  | _::_=>none
def l5:List PyData→Option (List Int)
  | []=>some []
  | .int x::ds=>(l5 ds).map fun xs=>x::xs
  | _::_=>none
theorem iI:∀{ds:List PyData} {xs:List Str},iH ds=some xs→ds=xs.map .str
  | [],xs,h=>by cases h;rfl
  | d::ds,xs,h=>by
    cases d with
    | str x=>
      obtain ⟨ys,e,rfl⟩:=Option.map_eq_some_iff.mp h
      rw [iI e];rfl
    | _=>cases h
theorem iJ:∀{ds:List PyData} {xs:List Int},l5 ds=some xs→ds=xs.map .int
  | [],xs,h=>by cases h;rfl
  | d::ds,xs,h=>by
    cases d with
    | int x=>
      obtain ⟨ys,e,rfl⟩:=Option.map_eq_some_iff.mp h
      rw [iJ e];rfl
    | _=>cases h
theorem jW {H:Hp}:∀{vs:List V} {xs:List Str},RpA K H vs (xs.map .str)→vs=xs.map .str
  | [],[],_=>rfl
  | v::vs,x::xs, .cons h r=>by cases h;rw [jW r];rfl
theorem jX {H:Hp}:∀{vs:List V} {xs:List Int},RpA K H vs (xs.map .int)→vs=xs.map .int
  | [],[],_=>rfl
  | v::vs,x::xs, .cons h r=>by cases h;rw [jX r];rfl
def Aq:PyData→PyData→Option Bool
  | .str x, .str y=>some (!(Builtin.Str.occurrences y x 0 y.length 1).isEmpty)
  | .str x, .list ds=>(iH ds).map fun xs=>xs.contains x
  | .str x, .tuple ds=>(iH ds).map fun xs=>xs.contains x
  | .int x, .list ds=>(l5 ds).map fun xs=>xs.contains x
  | .int x, .tuple ds=>(l5 ds).map fun xs=>xs.contains x
  | _,_=>none
def zM (K:PySem.W.Frag) (neg:Bool):R2:=fun x y H Q=>(∃i j,x= .str i∧y= .str j∧Q (.bl (if neg then !(!(Builtin.Str.occurrences j i 0 j.length 1).isEmpty) else !(Builtin.Str.occurrences j i 0 j.length 1).isEmpty)) H)∨Bh K neg x y H Q
theorem nu (x:Str) (xs:List Str):yV (.str x) (xs.map .str)=xs.contains x:=by
  induction xs with
  | nil=>rfl
  | cons y xs ih=>
    rw [List.contains_cons,←ih]
    show (vh (.str y) (.str x)||yV (.str x) (xs.map .str))=_
    congr 1
    show (y == x)=(x == y)
    exact BEq.comm
theorem nv (x:Int) (xs:List Int):yV (.int x) (xs.map .int)=xs.contains x:=by
  induction xs with
  | nil=>rfl
  | cons y xs ih=>
    rw [List.contains_cons,←ih]
    show (vh (.int y) (.int x)||yV (.int x) (xs.map .int))=_
    congr 1
    show (y == x)=(x == y)
    exact BEq.comm
theorem yn (neg:Bool):rO K (zM K neg) (fun d1 d2=>(Aq d1 d2).map fun b=> .bool (if neg then !b else b)):=fun d1 d2 d v1 v2 H Q e r1 r2=>by
  obtain ⟨b,e',rfl⟩:=Option.map_eq_some_iff.mp e
  clear e
  have e:=e'
  clear e'
  refine ⟨_,rfl,fun q=>?_⟩
  have hs:∀xs:List Str,(xs.map V.str).all fV=true:=fun xs=>by simp [List.all_eq_true,fV]
  have hi:∀xs:List Int,(xs.map V.int).all fV=true:=fun xs=>by simp [List.all_eq_true,fV]
  unfold Aq at e
  split at e
  · cases e;cases r1;cases r2
    exact .inl ⟨_,_,rfl,rfl,q⟩
  · obtain ⟨xs,ex,rfl⟩:=Option.map_eq_some_iff.mp e
    cases r1
    cases r2 with
    | lst h1 h2=>
      rw [iI ex] at h2
      rw [jW h2] at h1
      exact .inr ⟨_,_,rfl, .inl h1,rfl,hs _,by rw [nu];exact q⟩
  · obtain ⟨xs,ex,rfl⟩:=Option.map_eq_some_iff.mp e
    cases r1
    cases r2 with
    | tup h1 h2=>
      rw [iI ex] at h2
      rw [jW h2] at h1
      exact .inr ⟨_,_,rfl, .inr h1,rfl,hs _,by rw [nu];exact q⟩
  · obtain ⟨xs,ex,rfl⟩:=Option.map_eq_some_iff.mp e
    cases r1
    cases r2 with
    | lst h1 h2=>
      rw [iJ ex] at h2
      rw [jX h2] at h1
      exact .inr ⟨_,_,rfl, .inl h1,rfl,hi _,by rw [nv];exact q⟩
  · obtain ⟨xs,ex,rfl⟩:=Option.map_eq_some_iff.mp e
    cases r1
    cases r2 with
    | tup h1 h2=>
      rw [iJ ex] at h2
      rw [jX h2] at h1
      exact .inr ⟨_,_,rfl, .inr h1,rfl,hi _,by rw [nv];exact q⟩
  · cases e
def Ar (neg:Bool):P2:=dt fun d1 d2=>(Aq d1 d2).map fun b=> .bool (if neg then !b else b)
theorem rY:OpR X (compareOp .NotIn) (zM X.K true):=OpR.or lH lG
theorem yp (ha:EX X a m1 f) (hb:EX X b m2 g) (hm:behindInMarks .NotIn b=false:=by with_unfolding_all rfl):TX X (.Compare a [.NotIn] [b] pos) (m1||m2) (cZ (af (Ar true) m2 f g)):=lS rY (iC (yn true)) ha hb hm
end
def uv:List PyData→Option PyData
  | [.int i]=>some (.int i)
  | [.bool b]=>some (.int (if b then 1 else 0))
  | _=>none
section
variable {X:Cx} {e o:Expr} {m1 m2:Bool} {g:mN} {f h:b7} {p pos apos cpos:Pos} {K:PySem.W.Frag}
theorem vZ (hg:Gl X "int") (hm:X.mg "int"=none) (ha:AX X [e] m1 g) (he:starEach [e] X.env=[(false,eval e X.env)]:=by rfl):EX X (.Call (.Name "int" p) [e] [] pos) m1 (ck uv g):=
  bY (kB rD hg hm PyProof.Rows.boot_int ha (by decide) (by decide) he rfl) fun _ _ _ z=>ua (fun ds d vs H Q e r=>by
    unfold uv at e
    split at e
    · cases e
      obtain ⟨v,rfl,r'⟩:=r.one
      cases r'
      exact ⟨_,rfl,fun q=> .inl ⟨_,rfl,q⟩⟩
    · cases e
      obtain ⟨v,rfl,r'⟩:=r.one
      cases r'
      exact ⟨_,rfl,fun q=> .inr ⟨_,rfl,q⟩⟩
    · cases e) z
end
end PL
namespace PL
open PySem L2 Nh
theorem yq {X:Cx}:SlR X (fun x lo hi H Q=>∃z,x= .str z∧z.length≤sizeLine∧Q (.str (Txt.slice z lo hi)) H):=by
  intro pins s σ H x v vl vu lo hi sl Q I rx hs pl pu h
  obtain ⟨z,rfl,hz,q⟩:=h
  obtain ⟨t,rfl⟩:=rx
  cases pl with
  | none=>
    cases pu with
    | none=>exact ⟨"str",_,PySem.F.slot_str_getitem.lookup,typeIs_str _ _ _,wpAny_getItem_str_slice (l:=none) (u:=none) (st:=none) hs rfl (post_val_or_str ⟨Nat.le_trans (Txt.slice_le z _ _) hz,fun t' k=>⟨.str _,H,I.tok _,⟨_,rfl⟩,q⟩⟩)⟩
    | int j uj=>exact ⟨"str",_,PySem.F.slot_str_getitem.lookup,typeIs_str _ _ _,wpAny_getItem_str_slice (l:=none) (u:=some (j,uj)) (st:=none) hs rfl (post_val_or_str ⟨Nat.le_trans (Txt.slice_le z _ _) hz,fun t' k=>⟨.str _,H,I.tok _,⟨_,rfl⟩,q⟩⟩)⟩
  | int i ui=>
    cases pu with
    | none=>exact ⟨"str",_,PySem.F.slot_str_getitem.lookup,typeIs_str _ _ _,wpAny_getItem_str_slice (l:=some (i,ui)) (u:=none) (st:=none) hs rfl (post_val_or_str ⟨Nat.le_trans (Txt.slice_le z _ _) hz,fun t' k=>⟨.str _,H,I.tok _,⟨_,rfl⟩,q⟩⟩)⟩
    | int j uj=>exact ⟨"str",_,PySem.F.slot_str_getitem.lookup,typeIs_str _ _ _,wpAny_getItem_str_slice (l:=some (i,ui)) (u:=some (j,uj)) (st:=none) hs rfl (post_val_or_str ⟨Nat.le_trans (Txt.slice_le z _ _) hz,fun t' k=>⟨.str _,H,I.tok _,⟨_,rfl⟩,q⟩⟩)⟩
def gJ (m2:Bool) (f:b7) (lo hi:ye):b7:=fun E=>(f E).bind fun a=>if m2&&a.1.isBr then none else (lo a.2).bind fun b=>(hi b.2).bind fun c=>match look c.2 a.1 with
  | some (.list ds)=>if !df c.2 a.1||aO (oV ds b.1 c.1) then some (.ow (oV ds b.1 c.1),c.2) else none
  | some (.str z)=>if z.length≤1000000 then some (.sh (.str (Txt.slice z b.1 c.1)),c.2) else none
  | _=>none
theorem iK {X:Cx} {e:Expr} {lo hi:Option Expr} {m1 m2 m3:Bool} {f:b7} {g h:ye} {pos p2:Pos} (he:EX X e m1 f) (hl:OX X lo m2 g) (hh:OX X hi m3 h):EX X (.Subscript e (.Slice lo hi none p2) pos) (m1||(m2||m3)) (gJ (m2||m3) f g h):=by
  refine bY (tE (SlR.or vB yq) he hl hh) fun σ H Q z=>?_
  obtain ⟨B,E,xs,Xs,res,E',fr,cl,e,q⟩:=z
  obtain ⟨⟨s,E1⟩,e1,e⟩:=Option.bind_eq_some_iff.mp e
  by_cases hb:((m2||m3)&&s.isBr)=true
  · rw [if_pos hb] at e;cases e
  rw [if_neg hb] at e
  have n1:(m2||m3)=true→s.isBr=false:=fun z=>by
    cases hs:s.isBr with
    | false=>rfl
    | true=>exact absurd (by rw [z,hs];rfl) hb
  obtain ⟨⟨l,E2⟩,e2,e⟩:=Option.bind_eq_some_iff.mp e
  obtain ⟨⟨u,E3⟩,e3,e⟩:=Option.bind_eq_some_iff.mp e
  refine ⟨B,E,xs,Xs,s,E1,fr,fun z=>cl (by simp [z]),e1,fun v1 H1 fr1=>?_⟩
  refine ⟨B,E1,v1::xs,s::Xs,l,E2,fr1,fun z=>Calm.cons (cl (by simp [z])) (n1 (by simp [z])),e2,fun H2 fr2=>?_⟩
  refine ⟨B,E2,v1::xs,s::Xs,u,E3,fr2,fun z=>Calm.cons (cl (by simp [z])) (n1 (by simp [z])),e3,fun H3 ⟨F,A,fr3⟩=>?_⟩
  simp only at e
  split at e
  · rename_i ds ld
    split at e
    · rename_i hc
      cases e
      obtain ⟨v,ev,r,f0⟩:=fr3.look (k:=0) rfl ld
      cases ev
      obtain ⟨A',fr4⟩:=fr3.pop
      cases hh:df E' s with
      | false=>
        obtain ⟨a,vs,rfl,h1,h2⟩:=f0 hh
        exact .inl ⟨a,vs,rfl,h1,fun p hp=>q _ _ ⟨F,_,fr4.newl (h2.cut l u) hp⟩⟩
      | true=>
        rw [hh] at hc
        cases r with
        | lst h1 h2=>exact .inl ⟨_,_,rfl,h1,fun p hp=>q _ _ ⟨F,_,fr4.newl (fr3.coldA (h2.cut l u) (by simpa using hc)) hp⟩⟩
    · cases e
  · rename_i z ld
    split at e
    · rename_i hc
      cases e
      have r:=(fr3.look0 ld).1
      cases r
      obtain ⟨A',fr4⟩:=fr3.pop
      exact .inr ⟨_,rfl,dw hc,q _ _ ⟨F,A',fr4.push ⟨rfl,_,rfl, .str _⟩⟩⟩
    · cases e
  · cases e
def nw (scope:Scope) (env:Env):List (Str×Addr):=((scope.names.filter fun p=>p.2 == .free).map fun p=>(p.1,(env.cells.lookup p.1).getD 0)).reverse
theorem uw {X:Cx} {scope:Scope} {N:List Str} {js:List (Option Nat)} (clos:closureFor scope X.env=pure (nw scope X.env):=by rfl) (nocell:∀y∈scope.names,y.2≠ .cell:=by decide+kernel) (kind:scope.kind= .function:=by rfl)
    (names:∀y∈scope.names,y.2= .local→scope.names.lookup y.1=some .local:=by decide+kernel) (same:(scope.names.filter fun p=>p.2 == .free).all (fun p=>(X.env.cells.lookup p.1).isSome)=true:=by rfl)
    (has:(relabel scope X.env).names.all (fun y=> !(y.2 == .cell||y.2 == .free)||((nw scope X.env).lookup y.1).isSome)=true:=by rfl) (len:js.length=N.length:=by rfl)
    (fr:(js.zip N).all (fun p=>match p.1 with | none=>true | some j=>X.N[j]? == some p.2&&((relabel scope X.env).names.lookup p.2 == some .cell||(relabel scope X.env).names.lookup p.2 == some .free)&&(X.env.kindOf p.2 == some .cell||X.env.kindOf p.2 == some .free))=true:=by rfl):
    CompOk X scope (relabel scope X.env) (nw scope X.env) N js where
  clos:=clos
  rel:=rfl
  nocell:=nocell
  kind:=kind
  names:=names
  same:=fun x c e=>by
    have hm:=PySem.mem_of_lookup e
    unfold nw at hm
    obtain ⟨p,hp,ep⟩:=List.mem_map.mp (List.mem_reverse.mp hm)
    have:=List.all_eq_true.mp same _ hp
    obtain ⟨c',ec⟩:=Option.isSome_iff_exists.mp this
    injection ep with e1 e2
    subst e1
    rw [ec] at e2 ⊢
    exact congrArg some e2
  has:=fun x h=>by
    have key:∀k,(relabel scope X.env).names.lookup x=some k→(k == NameKind.cell||k == NameKind.free)=true→∃c,(nw scope X.env).lookup x=some c:=fun k h hk=>by
      have:=List.all_eq_true.mp has _ (PySem.mem_of_lookup h)
      simp only [hk,Bool.not_true,Bool.false_or] at this
      exact Option.isSome_iff_exists.mp this
    rcases h with h | h
    · exact key _ h rfl
    · exact key _ h rfl
  len:=len
  from_:=fun i j h=>by
    have hi:i < js.length:=(List.getElem?_eq_some_iff.mp h).1
    obtain ⟨x,ex⟩:∃x,N[i]? =some x:=⟨N[i]'(by omega),List.getElem?_eq_getElem (by omega)⟩
    have hz:(js.zip N)[i]? =some (some j,x):=by rw [List.getElem?_zip_eq_some];exact ⟨h,ex⟩
    have:=List.all_eq_true.mp fr _ (List.mem_of_getElem? hz)
    simp only [Bool.and_eq_true,Bool.or_eq_true,beq_iff_eq] at this
    exact ⟨x,ex,this.1.1,this.1.2,this.2⟩
structure Bn (mg:Str→Option Value):Prop where
  len:mg "len"=none
  range:mg "range"=none
  abs:mg "abs"=none
  min:mg "min"=none
  max:mg "max"=none
  reversed:mg "reversed"=none
  enumerate:mg "enumerate"=none
  isinstance:mg "isinstance"=none
  list:mg "list"=none
  tuple:mg "tuple"=none
  str:mg "str"=none
  int:mg "int"=none
  bool:mg "bool"=none
  sorted:mg "sorted"=none
  zip:mg "zip"=none
  sum:mg "sum"=none
  any:mg "any"=none
  all:mg "all"=none
  set:mg "set"=none
  dict:mg "dict"=none
theorem zN {K:PySem.W.Frag} {h:Heap} {mg:Str→Option Value} (X:K.In h) (G:h.Ns mainGlobals mg)
    (z1:PySem.W.nsIn K mainGlobals "len"=some none) (z2:PySem.W.nsIn K mainGlobals "range"=some none) (z3:PySem.W.nsIn K mainGlobals "abs"=some none) (z4:PySem.W.nsIn K mainGlobals "min"=some none) (z5:PySem.W.nsIn K mainGlobals "max"=some none) (z6:PySem.W.nsIn K mainGlobals "reversed"=some none) (z7:PySem.W.nsIn K mainGlobals "enumerate"=some none) (z8:PySem.W.nsIn K mainGlobals "isinstance"=some none) (z9:PySem.W.nsIn K mainGlobals "list"=some none) (z10:PySem.W.nsIn K mainGlobals "tuple"=some none) (z11:PySem.W.nsIn K mainGlobals "str"=some none) (z12:PySem.W.nsIn K mainGlobals "int"=some none) (z13:PySem.W.nsIn K mainGlobals "bool"=some none) (z14:PySem.W.nsIn K mainGlobals "sorted"=some none) (z15:PySem.W.nsIn K mainGlobals "zip"=some none) (z16:PySem.W.nsIn K mainGlobals "sum"=some none) (z17:PySem.W.nsIn K mainGlobals "any"=some none) (z18:PySem.W.nsIn K mainGlobals "all"=some none) (z19:PySem.W.nsIn K mainGlobals "set"=some none) (z20:PySem.W.nsIn K mainGlobals "dict"=some none):Bn mg:=
  ⟨PySem.W.mg_none_of X G z1,PySem.W.mg_none_of X G z2,PySem.W.mg_none_of X G z3,PySem.W.mg_none_of X G z4,PySem.W.mg_none_of X G z5,PySem.W.mg_none_of X G z6,PySem.W.mg_none_of X G z7,PySem.W.mg_none_of X G z8,PySem.W.mg_none_of X G z9,PySem.W.mg_none_of X G z10,PySem.W.mg_none_of X G z11,PySem.W.mg_none_of X G z12,PySem.W.mg_none_of X G z13,PySem.W.mg_none_of X G z14,PySem.W.mg_none_of X G z15,PySem.W.mg_none_of X G z16,PySem.W.mg_none_of X G z17,PySem.W.mg_none_of X G z18,PySem.W.mg_none_of X G z19,PySem.W.mg_none_of X G z20⟩
end PL
namespace PL
open PySem L2 Nh
abbrev By:=List Sl→Option (List Sl×Bool)
end PL
namespace PL
open PySem L2 Nh
section
variable {K:PySem.W.Frag} {F H:Hp}
theorem PtsOk.append:∀{us:List V} {ts:List Pt} {A:List Addr} {us':List V} {ts':List Pt} {A':List Addr},PtsOk K F H us ts A→PtsOk K F H us' ts' A'→PtsOk K F H (us++us') (ts++ts') (A++A')
  | [],[],A,_,_,_,h,h'=>by rw [show A=[] from h];exact h'
  | v::vs, .fl d::ps,A,_,_,_,h,h'=>⟨h.1,PtsOk.append h.2 h'⟩
  | v::vs, .ol ds::ps,A,_,_,_,h,h'=>by
    obtain ⟨l,us,A1,rfl,rfl,hl,hr,q⟩:=h
    exact ⟨l,us,_,rfl,rfl,hl,hr,q.append h'⟩
  | [],_::_,_,_,_,_,h,_=>False.elim h
  | _::_,[],_,_,_,_,h,_=>False.elim h
theorem PtsOk.rev:∀{us:List V} {ts:List Pt} {A:List Addr},PtsOk K F H us ts A→PtsOk K F H us.reverse ts.reverse A.reverse
  | [],[],A,h=>by rw [show A=[] from h];exact rfl
  | v::vs, .fl d::ps,A,h=>by
    rw [List.reverse_cons,List.reverse_cons,←List.append_nil A.reverse]
    exact (PtsOk.rev h.2).append (us':=[v]) (ts':=[.fl d]) (A':=[]) ⟨h.1,rfl⟩
  | v::vs, .ol ds::ps,A,h=>by
    obtain ⟨l,us,A1,rfl,rfl,hl,hr,q⟩:=h
    rw [List.reverse_cons,List.reverse_cons,List.reverse_cons]
    exact q.rev.append (us':=[.ref l]) (ts':=[.ol ds]) (A':=[l]) ⟨l,us,[],rfl,rfl,hl,hr,rfl⟩
  | [],_::_,_,h=>False.elim h
  | _::_,[],_,h=>False.elim h
theorem PtsOk.len:∀{us:List V} {ts:List Pt} {A:List Addr},PtsOk K F H us ts A→us.length=ts.length
  | [],[],A,_=>rfl
  | v::vs, .fl d::ps,A,h=>congrArg (· +1) h.2.len
  | v::vs, .ol ds::ps,A,h=>by
    obtain ⟨l,us,A1,rfl,rfl,hl,hr,q⟩:=h
    exact congrArg (· +1) q.len
  | [],_::_,_,h=>False.elim h
  | _::_,[],_,h=>False.elim h
end
abbrev Bz:=List Sl→Option (List Pt×List Sl)
end PL
namespace PL
open PySem PySem.Spec L2 Nh PyProof.Rows
def yY (lo c:Int) (n:Nat):It:=⟨fun i _=>i < n,fun i H x H'=>H'=H∧x= .int (lo+i*c),fun i _=>n≤i⟩
theorem nz {P:Program} {w:World} {K:PySem.W.Frag} {tg:Expr} (it:Addr) (lo c:Int) (n:Nat):Turn P w K tg (yY lo c n) [it] it (fun i h=>IsRangeIter h it (lo+(i:Nat)*c) ((n:Int) - (i:Nat)) c) where
  mem:=by simp
  obj:=fun i h st b hb=>by
    have e:b=it:=by simpa using hb
    subst e
    exact ⟨_,st,fun v z=>by
      have z':Data.fields _=Data.cell v:=z
      cases z'⟩
  keep:=fun i h h' st k=>k it (by simp) _ st
  item:=by
    intro X hP hw hK hc i pins s σ H E I hf st hg
    subst hP hw hK
    obtain ⟨f0,f1,f2,f3,f4,f5⟩:=hf it (by simp)
    have W:=Walks.range (prog:=X.prog) (w:=X.w) (I.ok.hd hc) it lo c n
    refine W.item i s _ _ hg st fun v h' tk hv st' kk=>?_
    obtain ⟨t,rfl⟩:=hv
    have I1:Inv X pins σ H {s with heap:=h',toks:=tk}:=I.turned (fun b o hb e=>kk b o (by simpa using hb) e) f0 f1 f3 f4 f5
    exact ⟨_,rfl,kl (s:={s with heap:=h',toks:=tk}) (n:="range_iterator") st' rfl rfl (by decide) ⟨.int (lo+i*c),H,I1,⟨t,rfl⟩,⟨rfl,rfl⟩,st',fun b hb=>(hf b hb).1⟩⟩
  done:=by
    intro X hP hw hK hc i pins s σ H E I hf st hg
    subst hP hw hK
    obtain ⟨f0,f1,f2,f3,f4,f5⟩:=hf it (by simp)
    exact wpAny_pyNext_range_end (I.ok.hd hc) st (by have:n≤i:=hg;omega) fun h' eb=>⟨rfl,I.turned (t':=s.toks) (fun b o hb e=>eb b o hb e) f0 f1 f3 f4 f5⟩
  self:=fun _ _ _ _ _ st h=>wpAny_pyIter_rangeiter st h
def nC (a b c:Int):Nat:=(Builtin.Range.rangeSize a b c).toNat
def l6 (i:Int):Prop:= -1000000≤i∧i≤1000000
instance (i:Int):Decidable (l6 i):=inferInstanceAs (Decidable (_∧_))
theorem qw {a b c:Int} (ha:l6 a) (hb:l6 b) (hc:l6 c) (h0:c≠0):0≤Builtin.Range.rangeSize a b c∧Builtin.Range.rangeSize a b c≤2000000:=by
  unfold l6 at ha hb hc
  unfold Builtin.Range.rangeSize
  split
  · split
    · have h1:0≤(b - a - 1) / c:=Int.ediv_nonneg (by omega) (by omega)
      have h2:(b - a - 1) / c≤b - a - 1:=Int.ediv_le_self _ (by omega)
      omega
    · omega
  · split
    · have h1:0≤(a - b - 1) / (-c):=Int.ediv_nonneg (by omega) (by omega)
      have h2:(a - b - 1) / (-c)≤a - b - 1:=Int.ediv_le_self _ (by omega)
      omega
    · omega
theorem fits {i:Int} (h: -10000000≤i∧i≤10000000):Builtin.Range.rangeFitsLong i=true:=by
  unfold Builtin.Range.rangeFitsLong
  simp only [Bool.and_eq_true,decide_eq_true_eq]
  omega
theorem uz {a b c:Int} (ha:l6 a) (hb:l6 b) (hc:l6 c) (h0:c≠0):Builtin.Range.small a b c=true:=by
  obtain ⟨s1,s2⟩:=qw ha hb hc h0
  unfold l6 at ha hb hc
  unfold Builtin.Range.small
  rw [fits (i:=a) (by omega),fits (i:=b) (by omega),fits (i:=c) (by omega),fits (i:=Builtin.Range.rangeSize a b c) (by omega)]
  split
  · rw [fits (by omega)];simp
  · rw [fits (by omega)];simp
def wW (ta:TA):TI:=fun σ H R=>ta σ H fun vs H1=>∃a b c:Int,vs=[.int a, .int b, .int c]∧(l6 a∧l6 b∧l6 c∧c≠0)∧R (yY a c (nC a b c)) H1
section
variable {X:Cx} {tg:Expr}
theorem rZ {pins:List (Addr×Obj)} {σ:L2.St} {H:Hp} {s:Shared} {R:It→Hp→Prop} {E:Value→Shared→Prop} {lo hi c:Int} {t u v:Tok} {tk:Nat} (I:Inv X pins σ H s) (ha:l6 lo) (hb:l6 hi) (hc:l6 c) (h0:c≠0)
    (q:R (yY lo c (nC lo hi c)) H):wpAny (model X.prog X.w) X.A (pyIter (.ref s.heap.objs.size)) (AA X pins σ tg R) E {s with heap:=s.heap.push {cls:= .type "range",data:= .fields #[.int lo t, .int hi u, .int c v]},toks:=tk}:=by
  refine wpAny_pyIter_range (IsRange.new ..) (uz ha hb hc h0) ?_
  have I1:Inv X pins σ H {s with heap:=s.heap.push {cls:= .type "range",data:= .fields #[.int lo t, .int hi u, .int c v]},toks:=tk}:=I.kept fun b o e=>Heap.get?_push_of_some _ e
  refine ⟨(s.heap.push {cls:= .type "range",data:= .fields #[.int lo t, .int hi u, .int c v]}).objs.size,[(s.heap.push {cls:= .type "range",data:= .fields #[.int lo t, .int hi u, .int c v]}).objs.size],_,_,H,rfl,
    I1.kept (t':=tk) fun b o e=>Heap.get?_push_of_some _ e,nz _ lo c (nC lo hi c),?_,fun b hb=>?_,q⟩
  · have e1:lo+((0:Nat):Int)*c=lo:=by simp
    have e2:((nC lo hi c:Nat):Int) - ((0:Nat):Int)=Builtin.Range.rangeSize lo hi c:=by
      have:=(qw ha hb hc h0).1
      unfold nC
      omega
    show IsRangeIter _ _ (lo+((0:Nat):Int)*c) (((nC lo hi c:Nat):Int) - ((0:Nat):Int)) c
    rw [e1,e2]
    exact Heap.get?_push_size _ rfl
  · have e:b=(s.heap.push {cls:= .type "range",data:= .fields #[.int lo t, .int hi u, .int c v]}).objs.size:=by simpa using hb
    subst e
    exact I1.fpOk (Nat.le_refl _) (I1.hok.fresh (Nat.le_refl _))
theorem r8 {a b c:Expr} {ta:TA} {p pos:Pos} (hg:Gl X "range") (hm:X.mg "range"=none) (ha:PA X [a,b,c] ta) (hs:starEach [a,b,c] X.env=[(false,eval a X.env),(false,eval b X.env),(false,eval c X.env)]:=by rfl) (hs2:starEach [b,c] X.env=[(false,eval b X.env),(false,eval c X.env)]:=by rfl):
    PI X tg (.Call (.Name "range" p) [a,b,c] [] pos) (wW ta):=by
  intro pins s σ H R I h
  refine Call_ (gW I hg hm boot_range (PyProof.Rows.callWith_type1 (bQ (ha pos pins s σ H _ I h) fun us s1 ⟨vs,H1,I1,r1,q1⟩=>?_) (by rw [hs,hs2]) (by rw [hs2];rfl)))
  obtain ⟨i,j,k,e,⟨q1,q2,q3,q4⟩,q⟩:=q1
  subst e
  cases r1 with
  | cons r rr=>
    cases rr with
    | cons r' rr=>
      cases rr with
      | cons r'' rr=>
        cases rr
        obtain ⟨t,rfl⟩:=r
        obtain ⟨t',rfl⟩:=r'
        obtain ⟨t'',rfl⟩:=r''
        exact call_range_3 q4 (rZ I1 q1 q2 q3 q4 q) (.inl (PyProof.noPylong_small (by unfold l6 at q3;omega)))
end
end PL
namespace PL
open PySem L2 Nh
section
variable {K:PySem.W.Frag} {B F:Hp} {A:List Addr} {σ:iy} {H H':Hp} {E:List Sl}
theorem DlOk.len:∀{us:List (bu×V)} {kvs:List (bu×List PyData)} {A:List Addr},DlOk K F H us kvs A→us.length=kvs.length
  | [],[],A,h=>rfl
  | p::us,q::kvs,A,h=>by
    obtain ⟨l,vs,A',rfl,rfl,hl,hr,k⟩:=h
    simp [k.len]
  | [],_::_,_,h=>False.elim h
  | _::_,[],_,h=>False.elim h
end
end PL
namespace PL
open PySem PySem.SeqAt
open AutoSeq1 (wpAny_loadPart')
open MeetsSeq MeetsSeq2 MeetsSeq3 SeqRoads2
def RcLtAt (A:Around) (s:Shared) (y x:Value) (b:Bool):Prop:=
  ∀(prog:Program) (w:World) (E:Value→Shared→Prop) (Q:Value→Shared→Prop),Q (.bool b) s→wpAny (model prog w) A (richCompare .Lt y x) Q E s
def iL (e r:Nat→Bool) (fin:Bool):List Nat→Bool
  | []=>fin
  | j::js=>if e j then iL e r fin js else r j
theorem r_ (l b:Addr) (items items2:Array Value) (n n2:Nat) (dd dd2:Option Addr) (sl sl2:Array (Option Value)) (e r:Nat→Bool) (k:Nat):
    ∀i:Nat,min items.size items2.size - i=k→Meets (Builtin.«list.__eq__.loop» ⟨[.ref l, .ref b,rawInt i,rawInt 0],[]⟩)
      (fun A R s=>s.heap.get? l=some {cls:= .type "list",dict:=dd,data:= .seq items n,slots:=sl}∧s.heap.get? b=some {cls:= .type "list",dict:=dd2,data:= .seq items2 n2,slots:=sl2}∧
        (∀j (h1:j < items.size) (h2:j < items2.size),EqAt A.in1 s items[j] items2[j] (e j))∧(∀j (h1:j < items.size) (h2:j < items2.size),e j=false→RcLtAt A.in1 s items[j] items2[j] (r j))∧
        R (.ok (.ret (.bool (iL e r (decide (items.size < items2.size)) ((List.range (min items.size items2.size)).drop i))))) s):=by
  induction k with
  | zero=>
    intro i hk prog w A R s h
    obtain ⟨hp,g,d,tk,os⟩:=s;obtain ⟨hl,hb,he,hr,h⟩:=h
    wp_walk using wpAny_loadPart' hl,wpAny_loadPart' hb
    have hd:(List.range (min items.size items2.size)).drop i=[]:=by simp;omega
    rw [hd] at h
    have hi:items[((i:Nat):Int).toNat]? =none∨items2[((i:Nat):Int).toNat]? =none:=by
      simp
      omega
    have fin:R (.ok (.ret (.bool (decide (items.size < items2.size))))) ⟨hp,g,d,tk,os⟩:=h
    rcases h1:items[((i:Nat):Int).toNat]? with _ | x1
    · wp_walk using wpAny_loadPart' hl,wpAny_loadPart' hb
      exact fin
    · rcases h2:items2[((i:Nat):Int).toNat]? with _ | x2
      · wp_walk using wpAny_loadPart' hl,wpAny_loadPart' hb
        exact fin
      · rw [h1,h2] at hi
        rcases hi with hi | hi <;> cases hi
  | succ k ih=>
    intro i hk prog w A R s h
    obtain ⟨hp,g,d,tk,os⟩:=s;obtain ⟨hl,hb,he,hr,h⟩:=h
    wp_walk using wpAny_loadPart' hl,wpAny_loadPart' hb
    have hm:i < min items.size items2.size:=by omega
    have hlt:i < items.size:=by omega
    have hlt2:i < items2.size:=by omega
    have hi1:items[((i:Nat):Int).toNat]? =some items[i]:=by simp [hlt]
    have hi2:items2[((i:Nat):Int).toNat]? =some items2[i]:=by simp [hlt2]
    have hd:(List.range (min items.size items2.size)).drop i=i::(List.range (min items.size items2.size)).drop (i+1):=by simp [List.drop_eq_getElem_cons,hm]
    have hc:((i:Int)+1)=((i+1:Nat):Int):=by push_cast;rfl
    rw [hd,iL] at h
    rw [hi1,hi2]
    refine wpAny_bind (he i hlt hlt2 prog w _ _ ?_)
    cases hb':e i with
    | true=>
      rw [hb',if_pos rfl] at h
      wp_walk
      rw [hc]
      exact ⟨plainId_quiet plain_eq_loop _,codeAny_builtin entry_eq_loop (by
        rw [Around.under_plainId plain_eq_loop _]
        exact ih (i+1) (by omega) prog w A R _ ⟨hl,hb,he,hr,h⟩)⟩
    | false=>
      rw [hb',if_neg (by decide)] at h
      wp_walk using wpAny_loadPart' hl,wpAny_loadPart' hb
      rw [hi1,hi2]
      refine wpAny_bind (hr i hlt hlt2 hb' prog w _ _ ?_)
      wp_walk
      exact h
theorem se (l b:Addr) (items items2:Array Value) (n n2:Nat) (dd dd2:Option Addr) (sl sl2:Array (Option Value)) (e r:Nat→Bool):
    Meets (Builtin.«list.__lt__» ⟨[.ref l, .ref b],[]⟩)
      (fun A R s=>s.heap.get? l=some {cls:= .type "list",dict:=dd,data:= .seq items n,slots:=sl}∧s.heap.get? b=some {cls:= .type "list",dict:=dd2,data:= .seq items2 n2,slots:=sl2}∧
        (∀j (h1:j < items.size) (h2:j < items2.size),EqAt A.in1 s items[j] items2[j] (e j))∧(∀j (h1:j < items.size) (h2:j < items2.size),e j=false→RcLtAt A.in1 s items[j] items2[j] (r j))∧
        R (.ok (.ret (.bool (iL e r (decide (items.size < items2.size)) (List.range (min items.size items2.size)))))) s):=by
  intro prog w A R s h
  obtain ⟨hp,g,d,tk,os⟩:=s;obtain ⟨hl,hb,he,hr,h⟩:=h
  have f3:=AutoSeq1.sub_list_list
  wp_walk using wpAny_loadPart' hl,wpAny_loadPart' hb
  exact ⟨plainId_quiet plain_eq_loop _,codeAny_builtin entry_eq_loop (by
    rw [Around.under_plainId plain_eq_loop _]
    exact r_ l b items items2 n n2 dd dd2 sl sl2 e r _ 0 rfl prog w A R _ ⟨hl,hb,he,hr,by simpa using h⟩)⟩
theorem o5 (l b:Addr) (items items2:Array Value) (n n2:Nat) (dd dd2:Option Addr) (sl sl2:Array (Option Value)) (e r:Nat→Bool):
    Meets (Builtin.«tuple.__lt__» ⟨[.ref l, .ref b],[]⟩)
      (fun A R s=>s.heap.get? l=some {cls:= .type "tuple",dict:=dd,data:= .seq items n,slots:=sl}∧s.heap.get? b=some {cls:= .type "tuple",dict:=dd2,data:= .seq items2 n2,slots:=sl2}∧
        (∀j (h1:j < items.size) (h2:j < items2.size),EqAt A.in1 s items[j] items2[j] (e j))∧(∀j (h1:j < items.size) (h2:j < items2.size),e j=false→RcLtAt A.in1 s items[j] items2[j] (r j))∧
        R (.ok (.ret (.bool (iL e r (decide (items.size < items2.size)) (List.range (min items.size items2.size)))))) s):=
  .of_wp fun prog w A R s h=>by
    obtain ⟨hp,g,d,tk,os⟩:=s;obtain ⟨hl,hb,he,hr,h⟩:=h
    have f2:=AutoSeq1.sub_tuple_tuple
    have hZ:(items.toList.zip items2.toList).length=min items.size items2.size:=by simp
    wp_walk using wpAny_loadPart' hl,wpAny_loadPart' hb,wpAny_forIn_list _ (fun bO b s'=>b.1=none∧s'=⟨hp,g,d,tk,os⟩∧∃i,bO=(items.toList.zip items2.toList).drop i∧
      R (.ok (.ret (.bool (iL e r (decide (items.size < items2.size)) ((List.range (min items.size items2.size)).drop i))))) ⟨hp,g,d,tk,os⟩) _
    case turn=>
      rintro ⟨y,x⟩ bO b s' ⟨hb',rfl,i,hz,hR⟩
      have hlt:i < (items.toList.zip items2.toList).length:=by
        rcases Nat.lt_or_ge i (items.toList.zip items2.toList).length with h' | h'
        · exact h'
        · rw [List.drop_of_length_le h'] at hz;cases hz
      have hm:i < min items.size items2.size:=hZ▸hlt
      have h1:i < items.size:=Nat.lt_of_lt_of_le hm (Nat.min_le_left _ _)
      have h2:i < items2.size:=Nat.lt_of_lt_of_le hm (Nat.min_le_right _ _)
      rw [List.drop_eq_getElem_cons hlt] at hz
      injection hz with hyx hrest
      have hy:y=items[i]:=by have:=congrArg Prod.fst hyx;simpa using this
      have hx:x=items2[i]:=by have:=congrArg Prod.snd hyx;simpa using this
      subst hy hx
      have hd:(List.range (min items.size items2.size)).drop i=i::(List.range (min items.size items2.size)).drop (i+1):=by simp [List.drop_eq_getElem_cons,hm]
      rw [hd,iL] at hR
      refine wpAny_bind (he i h1 h2 prog w _ _ ?_)
      cases hy:e i with
      | true=>
        rw [hy,if_pos rfl] at hR
        wp_walk
        exact ⟨rfl,rfl,i+1,hrest,hR⟩
      | false=>
        rw [hy,if_neg (by decide)] at hR
        rw [show (!false)=true from rfl,if_pos rfl]
        refine wpAny_bind (wpAny_rule (wpAny_bind (hr i h1 h2 hy prog w _ _ ?_)))
        wp_walk
        exact ⟨_,rfl,hR⟩
    case fin=>
      rintro ⟨b1,b2⟩ s' ⟨hb',rfl,i,hz,hR⟩
      simp only at hb'
      subst hb'
      have hge:min items.size items2.size≤i:=by
        rcases Nat.lt_or_ge i (items.toList.zip items2.toList).length with h' | h'
        · rw [List.drop_eq_getElem_cons h'] at hz;cases hz
        · exact hZ▸h'
      rw [List.drop_of_length_le (by simpa using hge)] at hR
      wp_walk
      exact ⟨_,rfl,hR⟩
    case h=>
      exact ⟨rfl,rfl,0,rfl,by simpa using h⟩
section
variable {A:Around} {s:Shared}
theorem RcLtAt.lists {l b:Addr} {items items2:Array Value} {e r:Nat→Bool} (hl:s.heap.IsList l items) (hb:s.heap.IsList b items2) (hu:A.units < cLine)
    (he:∀j (h1:j < items.size) (h2:j < items2.size),EqAt A.in1 s items[j] items2[j] (e j)) (hr:∀j (h1:j < items.size) (h2:j < items2.size),e j=false→RcLtAt A.in1 s items[j] items2[j] (r j)):RcLtAt A s (.ref l) (.ref b) (iL e r (decide (items.size < items2.size)) (List.range (min items.size items2.size))):=fun prog w E Q h=>by
  obtain ⟨⟨cls,dd,data,sl⟩,ho,hc,n,hd⟩:=id hl
  obtain ⟨⟨cls2,dd2,data2,sl2⟩,ho2,hc2,n2,kF⟩:=id hb
  simp only at hc hd hc2 kF
  subst hc hd hc2 kF
  exact richCompare_meets_room (op:= .Lt) ⟨_,ho,rfl⟩ ⟨_,ho2,rfl⟩ F.slot_list_lt F.entry_list_lt (F.args_list_lt_2 _ _) (se l b items items2 n n2 dd dd2 sl sl2 e r)
    ⟨ho,ho2,he,hr,show Value.bool _≠Value.notImplemented∧Q (.bool _) s from ⟨(fun x=>nomatch x),h⟩⟩ hu
theorem RcLtAt.tuples {l b:Addr} {items items2:Array Value} {e r:Nat→Bool} (hl:s.heap.IsTuple l items) (hb:s.heap.IsTuple b items2) (hu:A.units < cLine)
    (he:∀j (h1:j < items.size) (h2:j < items2.size),EqAt A.in1 s items[j] items2[j] (e j)) (hr:∀j (h1:j < items.size) (h2:j < items2.size),e j=false→RcLtAt A.in1 s items[j] items2[j] (r j)):RcLtAt A s (.ref l) (.ref b) (iL e r (decide (items.size < items2.size)) (List.range (min items.size items2.size))):=fun prog w E Q h=>by
  obtain ⟨⟨cls,dd,data,sl⟩,ho,hc,n,hd⟩:=id hl
  obtain ⟨⟨cls2,dd2,data2,sl2⟩,ho2,hc2,n2,kF⟩:=id hb
  simp only at hc hd hc2 kF
  subst hc hd hc2 kF
  exact richCompare_meets_room (op:= .Lt) ⟨_,ho,rfl⟩ ⟨_,ho2,rfl⟩ F.slot_tuple_lt F.entry_tuple_lt (F.args_tuple_lt_2 _ _) (o5 l b items items2 n n2 dd dd2 sl sl2 e r)
    ⟨ho,ho2,he,hr,show Value.bool _≠Value.notImplemented∧Q (.bool _) s from ⟨(fun x=>nomatch x),h⟩⟩ hu
theorem RcLtAt.ints (i j:Int) (t u:Tok):RcLtAt A s (.int i t) (.int j u) (decide (i < j)):=fun prog w E Q h=>PyProof.Rows.lt_int h
end
end PL
namespace PL
open PySem PySem.SeqAt L2 Nh
abbrev zO:=PyData→PyData→Option Bool
def Bm:zO
  | .int i, .int j=>some (decide (i < j))
  | .str a, .str b=>some (decide (a.cps.toList < b.cps.toList))
  | _,_=>none
def v4 (lt:zO):List PyData→List PyData→Option Bool
  | [],ys=>some (!ys.isEmpty)
  | _::_,[]=>some false
  | x::xs,y::ys=>if PyData.eqv x y then v4 lt xs ys else (lt x y).bind fun b=>(v4 lt xs ys).map fun _=>b
def Bo (lt:zO):zO
  | .list xs, .list ys=>v4 lt xs ys
  | .tuple xs, .tuple ys=>v4 lt xs ys
  | d,e=>Bm d e
def Am:zO:=Bo (Bo Bm)
end PL
namespace PL
open PySem L2 Nh
section
variable {X:Cx} {e:Expr} {es:List Expr} {m1:Bool} {g:mN} {p pos:Pos}
def kY:List PyData→Option (List Int)
  | []=>some []
  | .int i::ds=>(kY ds).map (i:: ·)
  | _=>none
def zP:List PyData→Option PyData
  | [.list ds]=>(kY ds).map fun ns=> .int ns.sum
  | _=>none
def AW (K:PySem.W.Frag):List V→Hp→VK→Prop:=fun xs H Q=>∃(p:Addr) (ns:List Int),xs=[.ref p]∧SqL K H p (ns.map V.int)∧Q (.int ns.sum) H
theorem l7 {K:PySem.W.Frag} {H:Hp}:∀{vs:List V} {ds:List PyData} {bs:List Int},RpA K H vs ds→kY ds=some bs→vs=bs.map V.int
  | _,_,bs, .nil,e=>by cases e;rfl
  | _,_,bs, .cons (d:=d) h t,e=>by
    cases d <;> simp [kY] at e
    obtain ⟨cs,e,rfl⟩:=e
    cases h
    rw [l7 t e]
    rfl
theorem uA {K:PySem.W.Frag}:vV K (AW K) zP:=fun ds d vs H Q e r=>by
  unfold zP at e
  split at e
  · obtain ⟨bs,eb,rfl⟩:=Option.map_eq_some_iff.mp e
    obtain ⟨v,rfl,r1⟩:=r.one
    cases r1 with
    | lst h1 h2=>
      have:=l7 h2 eb
      subst this
      exact ⟨_,rfl,fun q=>⟨_,bs,rfl,h1,q⟩⟩
  · cases e
theorem gy:∀{ns:List Int} {us:List Value},Vals (ns.map V.int) us→us.length=ns.length∧∀(i:Nat) (v:Value),us[i]? =some v→∃t,v=Value.int (ns.getD i 0) t
  | [],_, .nil=>⟨rfl,fun i v h=>by simp at h⟩
  | n::ns,_, .cons h t=>by
    obtain ⟨tk,rfl⟩:=h
    obtain ⟨h1,h2⟩:=gy t
    refine ⟨by simp [h1],fun i v h=>?_⟩
    cases i with
    | zero=>simp at h;subst h;exact ⟨tk,rfl⟩
    | succ i=>simpa using h2 i v (by simpa using h)
end
end PL
namespace PL
open PySem L2 Nh
theorem g5:∀ns:List Int,aO (ns.map PyData.int)=true
  | []=>rfl
  | n::ns=>by simp [aO,cJ,g5 ns]
theorem SAll.memA {P:Option V→Sl→List Addr→Prop} {os:List (Option V)} {ss:List Sl} {A:List Addr} {k:Nat} {s:Sl} (h:SAll P os ss A) (e:ss[k]? =some s):∃o A1,os[k]? =some o∧P o s A1∧∀a∈A1,a∈A:=by
  obtain ⟨o,A0,A1,A2,eA,eo,hp,_⟩:=h.at e
  exact ⟨o,A1,eo,hp,fun a ha=>by rw [eA];exact List.mem_append_right _ (List.mem_append_left _ ha)⟩
theorem SAll.two {P:Option V→Sl→List Addr→Prop}:∀{os:List (Option V)} {ss:List Sl} {A:List Addr} {i j:Nat} {s t:Sl},SAll P os ss A→ss[i]? =some s→ss[j]? =some t→i≠j→A.Nodup→
    ∃o1 A1 o2 A2,os[i]? =some o1∧P o1 s A1∧os[j]? =some o2∧P o2 t A2∧(∀a∈A1,a∈A)∧(∀a∈A2,a∈A)∧∀a∈A1,a∉A2
  | _,_,_,_,_,_,_, .nil,e,_,_,_=>by simp at e
  | _,_,_,0,0,_,_, .cons h r,_,_,n,_=>absurd rfl n
  | _,_,_,0,j+1,s,t, .cons (o:=o) (A:=A) (B:=B) h r,e1,e2,_,nd=>by
    simp at e1
    subst e1
    obtain ⟨o2,A2,eo,hp,sub⟩:=r.memA (k:=j) (by simpa using e2)
    exact ⟨o,A,o2,A2,rfl,h,by simpa using eo,hp,fun a ha=>List.mem_append_left _ ha,fun a ha=>List.mem_append_right _ (sub a ha),fun a ha hb=>(List.nodup_append.mp nd).2.2 a ha a (sub a hb) rfl⟩
  | _,_,_,i+1,0,s,t, .cons (o:=o) (A:=A) (B:=B) h r,e1,e2,_,nd=>by
    simp at e2
    subst e2
    obtain ⟨o2,A2,eo,hp,sub⟩:=r.memA (k:=i) (by simpa using e1)
    exact ⟨o2,A2,o,A,by simpa using eo,hp,rfl,h,fun a ha=>List.mem_append_right _ (sub a ha),fun a ha=>List.mem_append_left _ ha,fun a ha hb=>(List.nodup_append.mp nd).2.2 a hb a (sub a ha) rfl⟩
  | _,_,_,i+1,j+1,s,t, .cons (o:=o) (A:=A) (B:=B) h r,e1,e2,n,nd=>by
    obtain ⟨o1,A1,o2,A2,q1,q2,q3,q4,q5,q6,q7⟩:=r.two (i:=i) (j:=j) (by simpa using e1) (by simpa using e2) (fun z=>n (by rw [z])) (List.nodup_append.mp nd).2.1
    exact ⟨o1,A1,o2,A2,by simpa using q1,q2,by simpa using q3,q4,fun a ha=>List.mem_append_right _ (q5 a ha),fun a ha=>List.mem_append_right _ (q6 a ha),q7⟩
end PL
namespace NhMaxD
open PySem PyProof.Rows
theorem uB (a d:Value):argsOk "max" ⟨[a],[("default",d)]⟩:=by unfold argsOk;kernel_rfl
section
variable {prog:Program} {w:World} {A:Around} {E:Value→Shared→Prop} {R:Result→Shared→Prop} {I:Addr} {fp wr:List Addr} {St:Nat→Heap→Prop}
abbrev zQ (h:Heap) (S:Addr) (vs:Array Value):Prop:=∃c,h.get? S=some {cls:= .type "list",dict:=none,data:= .seq vs c,slots:=#[]}
theorem rf {ns:List Int} (W:Walks prog w A.in1 I fp wr ns.length (fun i v=>∃t,v= .int (ns.getD i 0) t) St) (S:Addr) (hSf:S∉fp) (d:Value):
    ∀(k j:Nat) (s:Shared) (m:Int) (t:Tok),ns.length - j=k→j≤ns.length→St j s.heap→zQ s.heap S #[.int m t, .int m t]→
      (∀t' h' tk,(∀b o,b∉S::wr→s.heap.get? b=some o→h'.get? b=some o)→R (.ok (.ret (.int ((ns.drop j).foldl max m) t'))) {s with heap:=h',toks:=tk})→
      codeAny (model prog w) A (.builtin "max.loop" ⟨[.ref I, .none, .ref S],[("default",d)]⟩) R s:=by
  have hSw:S∉wr:=fun h=>hSf (W.sub _ h)
  have hnm:(toString "max"++toString ".loop":String)="max.loop":=by decide
  intro k
  induction k with
  | zero=>
    rintro j s m t hk hj st ⟨c,hS⟩ hR
    have hjn:j=ns.length:=by omega
    refine codeAny_builtin PySem.F.entry_max_loop ?_
    rw [Around.under_plainId PySem.F.plain_max_loop _]
    refine wpAny_bind (m:=seqItems? (.ref S)) (wpAny_seqItems hS rfl ?_)
    refine wpAny_bind (m:=tryCatch (pyNext (.ref I)) _) (wpAny_tryCatch (W.done s _ _ (by rw [←hjn];exact st) fun h' tk kp=>?_))
    refine wpAny_bind (m:=updateSeq S (fun _=>#[])) (wpAny_updateSeq (kp S _ hSw hS) rfl (wpAny_bind (wpAny_letGo (wpAny_pure ?_))))
    have e:(ns.drop j).foldl max m=m:=by rw [hjn,List.drop_length];rfl
    rw [e] at hR
    exact hR t _ tk fun b o hb q=>(Heap.get?_update_other _ _ (fun z:S=b=>hb (by rw [←z];exact List.mem_cons_self ..))).trans (kp b o (fun z=>hb (List.mem_cons_of_mem _ z)) q)
  | succ k ih=>
    rintro j s m t hk hj st ⟨c,hS⟩ hR
    have hlt:j < ns.length:=by omega
    refine codeAny_builtin PySem.F.entry_max_loop ?_
    rw [Around.under_plainId PySem.F.plain_max_loop _]
    refine wpAny_bind (m:=seqItems? (.ref S)) (wpAny_seqItems hS rfl ?_)
    refine wpAny_bind (m:=tryCatch (pyNext (.ref I)) _) (wpAny_tryCatch (W.item j s _ _ hlt st fun v h' tk hv st' kp=>?_))
    obtain ⟨u,rfl⟩:=hv
    have hS':=kp S _ hSw hS
    have eg:ns.getD j 0=ns[j]:=by simp [hlt]
    rw [eg]
    have ed:(ns.drop j).foldl max m=(ns.drop (j+1)).foldl max (max m ns[j]):=by rw [List.drop_eq_getElem_cons hlt,List.foldl_cons]
    rw [ed] at hR
    have cmp:=CmpOf.ints_gt (prog:=prog) (w:=w) (A:=A.in1) (P:=fun i v=>∃t,v= .int (if i=0 then ns[j] else m) t) (fun i=>if i=0 then ns[j] else m) (fun _ _ z=>z)
    refine wpAny_bind (m:=tryCatch (holding [.int ns[j] u, .int ns[j] u] (richCompare .Gt (.int ns[j] u) (.int m t) >>= _)) _) (wpAny_tryCatch (wpAny_holding (wpAny_bind (cmp 0 1 _ _ _ _ _ ⟨u,rfl⟩ ⟨t,rfl⟩ ?_))))
    refine wpAny_bind (wpAny_holding (wpAny_truthy_bool ?_))
    refine wpAny_bind (wpAny_letGo (wpAny_pure ?_))
    simp only [if_true,Nat.one_ne_zero,if_false]
    by_cases hb:ns[j] > m
    · simp only [hb,decide_true,if_true]
      refine wpAny_bind (wpAny_updateSeq hS' rfl (wpAny_bind (wpAny_letGo ?_)))
      rw [hnm]
      rw [show max m ns[j]=ns[j] by omega] at hR
      refine wpAny_pure ⟨plainId_quiet PySem.F.plain_max_loop _,ih (j+1) _ ns[j] u (by omega) hlt (W.frame _ _ _ st' fun b hbf o e=>?_) ⟨_,Heap.get?_update_self _ hS' rfl⟩ fun t' h2 tk2 k2=>?_⟩
      · exact (Heap.get?_update_other _ _ (fun z:S=b=>hSf (by rw [z];exact hbf))).trans e
      · exact hR t' h2 tk2 fun b o hbb e=>k2 b o hbb ((Heap.get?_update_other _ _ (fun z:S=b=>hbb (by rw [←z];exact List.mem_cons_self ..))).trans (kp b o (fun z=>hbb (List.mem_cons_of_mem _ z)) e))
    · simp only [hb,decide_false,Bool.false_eq_true,if_false]
      refine wpAny_bind (wpAny_letGo ?_)
      rw [hnm]
      rw [show max m ns[j]=m by omega] at hR
      refine wpAny_pure ⟨plainId_quiet PySem.F.plain_max_loop _,ih (j+1) _ m t (by omega) hlt st' ⟨_,hS'⟩ fun t' h2 tk2 k2=>?_⟩
      exact hR t' h2 tk2 fun b o hbb e=>k2 b o hbb (kp b o (fun z=>hbb (List.mem_cons_of_mem _ z)) e)
def AY:List Int→Int→Int
  | [],d=>d
  | n::r,_=>r.foldl max n
theorem call {s:Shared} {l:Addr} {items:Array Value} {ns:List Int} {d:Int} {td:Tok} {Q:Value→Shared→Prop} (hh:A.handled=none) (hl:s.heap.IsList l items) (hi:IntsAre items.toList ns)
    (h:∀t h' tk,(∀b o,s.heap.get? b=some o→h'.get? b=some o)→Q (.int (AY ns d) t) {s with heap:=h',toks:=tk}):
    wpAny (model prog w) A (PySem.call (.builtin "max") [.ref l] [("default", .int d td)]) Q E s:=by
  have hnm:(toString "max"++toString ".loop":String)="max.loop":=by decide
  refine wpAny_call (codeAny_call_builtin PySem.F.plain_max PySem.F.entry_max ?_)
  simp only [checkBuiltinCall,PySem.F.kind_max]
  have key:wpAny (model prog w) A.in1 (Builtin.«max» ⟨[.ref l],[("default", .int d td)]⟩) (fun fin s'=>match fin with
      | .done f=>(match (Except.ok f:Result) with | .ok (.ret v)=>Q v s' | .ok _=>False | .error e=>E e s')
      | .again c'=>c'.quiet=true∧codeAny (model prog w) A c' (fun r s'=>match r with | .ok (.ret v)=>Q v s' | .ok _=>False | .error e=>E e s') s') E s:=by
    refine wpAny_bind (m:=Builtin.Builtins.bindParams "max" ["key","default"] 0 ⟨[],[("default", .int d td)]⟩) (wpAny_of_eq (a:=[none,some (.int d td)]) rfl ?_)
    refine wpAny_bind (wpAny_pure ?_)
    refine wpAny_bind (wpAny_pyIter_list hl ?_)
    refine wpAny_bind (wpAny_newObj_type ?_)
    rw [hnm]
    have hlen:items.size=ns.length:=by have:=hi.length;simpa using this
    have hlt:l < s.heap.objs.size:=let ⟨_,ho,_⟩:=hl;Heap.lt_size ho
    have hI:(s.heap.push {cls:= .type "list_iterator",data:= .fields #[.ref l, .int 0 0]}).objs.size=s.heap.objs.size+1:=by rw [Heap.size_push]
    have W0:=Walks.list (prog:=prog) (w:=w) (A:=A.in1) (by simpa using hh) s.heap.objs.size l (Nat.ne_of_lt hlt) items
    have W:Walks prog w A.in1 s.heap.objs.size [s.heap.objs.size,l] [s.heap.objs.size] ns.length (fun i v=>∃t,v= .int (ns.getD i 0) t) (fun i h=>h.IsListIter s.heap.objs.size l i∧h.IsList l items):=by
      rw [←hlen]
      exact ⟨W0.sub,W0.frame,fun i s Q E hi' st hQ=>W0.item i s Q E hi' st fun v h' tk hv st' kp=>hQ v h' tk (IntsAre.int_at hi i v (by rw [Array.getElem?_toList];exact hv)) st' kp,W0.done,W0.self⟩
    have hSf:(s.heap.push {cls:= .type "list_iterator",data:= .fields #[.ref l, .int 0 0]}).objs.size∉[s.heap.objs.size,l]:=by
      rw [hI]
      intro z
      rcases List.mem_cons.mp z with z | z
      · exact absurd z (Nat.ne_of_gt (Nat.lt_succ_self _))
      · exact absurd (List.mem_singleton.mp z) (Nat.ne_of_gt (Nat.lt_succ_of_lt hlt))
    have st0:∀o,(fun i (h:Heap)=>h.IsListIter s.heap.objs.size l i∧h.IsList l items) 0 ((s.heap.push {cls:= .type "list_iterator",data:= .fields #[.ref l, .int 0 0]}).push o):=fun o=>
      ⟨⟨_,Heap.get?_push_of_some _ (Heap.get?_push_size _ rfl),rfl,rfl⟩,(hl.push _).push _⟩
    have old:∀b o q,s.heap.get? b=some o→((s.heap.push {cls:= .type "list_iterator",data:= .fields #[.ref l, .int 0 0]}).push q).get? b=some o∧b∉[(s.heap.push {cls:= .type "list_iterator",data:= .fields #[.ref l, .int 0 0]}).objs.size,s.heap.objs.size]:=fun b o q e=>by
      have hb:=Heap.lt_size e
      refine ⟨Heap.get?_push_of_some _ (Heap.get?_push_of_some _ e),fun z=>?_⟩
      rw [hI] at z
      rcases List.mem_cons.mp z with z | z
      · exact absurd z (Nat.ne_of_lt (Nat.lt_succ_of_lt hb))
      · exact absurd (List.mem_singleton.mp z) (Nat.ne_of_lt hb)
    refine wpAny_pure ⟨plainId_quiet PySem.F.plain_max_loop _,codeAny_builtin PySem.F.entry_max_loop ?_⟩
    rw [Around.under_plainId PySem.F.plain_max_loop _]
    refine wpAny_bind (m:=seqItems? (.ref _)) (wpAny_seqItems (Heap.get?_push_size _ rfl) rfl ?_)
    cases ns with
    | nil=>
      refine wpAny_bind (m:=tryCatch (pyNext (.ref s.heap.objs.size)) _) (wpAny_tryCatch (W.done _ _ _ (st0 _) fun h' tk kp=>?_))
      refine wpAny_bind (wpAny_rule (wpAny_pure ?_))
      exact h td h' tk fun b o e=>kp b o (fun z=>(old b o {cls:= .none} e).2 (List.mem_cons_of_mem _ z)) (old b o _ e).1
    | cons n r=>
      refine wpAny_bind (m:=tryCatch (pyNext (.ref s.heap.objs.size)) _) (wpAny_tryCatch (W.item 0 _ _ _ (by simp) (st0 _) fun v h' tk hv st' kp=>?_))
      obtain ⟨u,rfl⟩:=hv
      have hS':=kp _ _ (fun z=>hSf (W.sub _ z)) (Heap.get?_push_size _ rfl)
      refine wpAny_bind (m:=updateSeq _ (fun _=>#[.int n u, .int n u])) (wpAny_updateSeq hS' rfl ?_)
      rw [hnm]
      refine wpAny_pure ⟨plainId_quiet PySem.F.plain_max_loop _,rf W _ hSf _ _ 1 _ n u rfl (by simp) (W.frame _ _ _ st' fun b hbf o e=>?_) ⟨_,Heap.get?_update_self _ hS' rfl⟩ fun t' h2 tk2 k2=>?_⟩
      · exact (Heap.get?_update_other _ _ (fun z=>hSf (by rw [z];exact hbf))).trans e
      · refine h t' h2 tk2 fun b o e=>k2 b o (old b o {cls:= .none} e).2 ((Heap.get?_update_other _ _ (fun z=>(old b o {cls:= .none} e).2 (by rw [←z];exact List.mem_cons_self ..))).trans (kp b o (fun z=>(old b o {cls:= .none} e).2 (List.mem_cons_of_mem _ z)) (old b o _ e).1))
  cases hsig:Manifest.signature? "max" with
  | none=>exact wpAny_pure key
  | some sig=>
    have ha:=uB (.ref l) (.int d td)
    simp only [argsOk,hsig] at ha
    show wpAny _ A.in1 (Bind.checkArgs "max" sig ⟨[.ref l],[("default", .int d td)]⟩) _ _ s
    rw [show Bind.checkArgs "max" sig ⟨[.ref l],[("default", .int d td)]⟩=pure () from ha]
    exact wpAny_pure key
end
end NhMaxD
namespace PL
open PySem L2 Nh
def wX:R2:=fun x y H Q=>∃a k,x= .str a∧y= .int k∧a.length≤1000∧ -1000≤k∧k≤1000∧Q (.str (Txt.mul a k)) H
theorem uC {a:Str} {k:Int} (h1:a.length≤1000) (h2:k≤1000):(Txt.mul a k).length≤sizeLine:=by
  have e:=PyProof.Rows.len_mul a k
  rw [sizeLine_eq]
  by_cases n:k < 0
  · simp only [n,decide_true,if_true,Int.mul_zero] at e
    omega
  · simp only [n,decide_false,Bool.false_eq_true,if_false] at e
    have:(a.length:Int)*k≤1000*1000:=Int.mul_le_mul (by omega) h2 (by omega) (by omega)
    omega
theorem v5 {X:Cx}:OpR X (binaryOp .Mult) wX:=by
  intro pins s σ H x y v u Q I rx ry h
  obtain ⟨a,k,rfl,rfl,h1,h2,h3,q⟩:=h
  obtain ⟨t,rfl⟩:=rx
  obtain ⟨u,rfl⟩:=ry
  obtain ⟨o1,o2,o3⟩:=PyProof.Rows.mulOk_of (x:=a) (n:=k) 1000 1000 h1 h3 (by omega) (by decide) (by decide)
  refine P.mul_str o1 o2 o3 ?_
  have hz:=uC h1 h3
  unfold Txt.mul at hz q
  by_cases c1:k < 1
  · rw [if_pos c1] at hz q ⊢
    exact ⟨hz, .str _,H,I.tok _,⟨_,rfl⟩,q⟩
  · rw [if_neg c1] at hz q ⊢
    by_cases c2:(k == 1||a.length == 0)=true
    · rw [if_pos c2] at hz q ⊢
      exact ⟨.str _,H,I,⟨_,rfl⟩,q⟩
    · rw [if_neg c2] at hz q ⊢
      exact ⟨hz, .str _,H,I.tok _,⟨_,rfl⟩,q⟩
end PL
namespace NhSet
open PySem PyProof.Rows
structure SS (w:World) (b:Bool) (ks:List Str) (es:Array (Int×Value)) (t:SetTable):Prop where
  perm:(es.toList.map (fun e=>strOf e.2)).Perm ks
  elems:∀e∈es.toList,∃x tk,e=(hashStr w x,Value.str x tk)
  bound:es.size < scanBound
  fits:t.fits es.size=true
  led:t.led=b
  plain:es.size≠0→t.plain=false
abbrev yr (es:Array (Int×Value)) (ep:Nat) (t:SetTable):Obj:={cls:= .type "set",dict:=none,data:= .set es ep t}
def StrSet (w:World) (h:Heap) (a:Addr) (b:Bool) (ks:List Str):Prop:=∃es ep t,h.get? a=some (yr es ep t)∧SS w b ks es t
theorem StrSet.at' {w:World} {h h':Heap} {a:Addr} {b:Bool} {ks:List Str} (S:StrSet w h a b ks) (e:∀o,h.get? a=some o→h'.get? a=some o):StrSet w h' a b ks:=
  let ⟨es,ep,t,ho,r⟩:=S;⟨es,ep,t,e _ ho,r⟩
theorem StrSet.obj {w:World} {h:Heap} {a:Addr} {b:Bool} {ks:List Str} (S:StrSet w h a b ks):∃o,h.get? a=some o:=let ⟨_,_,_,ho,_⟩:=S;⟨_,ho⟩
theorem StrSet.typeIs {w:World} {s:Shared} {a:Addr} {b:Bool} {ks:List Str} (S:StrSet w s.heap a b ks):s.TypeIs (.ref a) "set":=let ⟨_,_,_,ho,_⟩:=S;⟨_,ho,rfl⟩
theorem SS.len {w:World} {b:Bool} {ks:List Str} {es:Array (Int×Value)} {t:SetTable} (S:SS w b ks es t):es.size=ks.length:=by
  have:=S.perm.length_eq;simpa using this
theorem SS.mem {w:World} {b:Bool} {ks:List Str} {es:Array (Int×Value)} {t:SetTable} (S:SS w b ks es t) (x:Str):x∈ks↔∃e∈es.toList,Value.isStrOf x e.2=true:=by
  rw [←S.perm.mem_iff,List.mem_map]
  constructor
  · rintro ⟨e,he,rfl⟩
    obtain ⟨y,tk,rfl⟩:=S.elems e he
    exact ⟨_,he,by simp [Value.isStrOf,strOf]⟩
  · rintro ⟨e,he,hx⟩
    obtain ⟨y,tk,rfl⟩:=S.elems e he
    have:y=x:=by simpa [Value.isStrOf] using hx
    exact ⟨_,he,by simp [strOf,this]⟩
end NhSet
namespace PL
open PySem PySem.SeqAt
open AutoSeq1 (wpAny_loadPart')
open MeetsSeq MeetsSeq2 MeetsSeq3 SeqRoads2
def RcGtAt (A:Around) (s:Shared) (y x:Value) (b:Bool):Prop:=
  ∀(prog:Program) (w:World) (E:Value→Shared→Prop) (Q:Value→Shared→Prop),Q (.bool b) s→wpAny (model prog w) A (richCompare .Gt y x) Q E s
theorem o6 (l b:Addr) (items items2:Array Value) (n n2:Nat) (dd dd2:Option Addr) (sl sl2:Array (Option Value)) (e r:Nat→Bool):
    Meets (Builtin.«tuple.__gt__» ⟨[.ref l, .ref b],[]⟩)
      (fun A R s=>s.heap.get? l=some {cls:= .type "tuple",dict:=dd,data:= .seq items n,slots:=sl}∧s.heap.get? b=some {cls:= .type "tuple",dict:=dd2,data:= .seq items2 n2,slots:=sl2}∧
        (∀j (h1:j < items.size) (h2:j < items2.size),EqAt A.in1 s items[j] items2[j] (e j))∧(∀j (h1:j < items.size) (h2:j < items2.size),e j=false→RcGtAt A.in1 s items[j] items2[j] (r j))∧
        R (.ok (.ret (.bool (iL e r (decide (items2.size < items.size)) (List.range (min items.size items2.size)))))) s):=
  .of_wp fun prog w A R s h=>by
    obtain ⟨hp,g,d,tk,os⟩:=s;obtain ⟨hl,hb,he,hr,h⟩:=h
    have f2:=AutoSeq1.sub_tuple_tuple
    have hZ:(items.toList.zip items2.toList).length=min items.size items2.size:=by simp
    wp_walk using wpAny_loadPart' hl,wpAny_loadPart' hb,wpAny_forIn_list _ (fun bO b s'=>b.1=none∧s'=⟨hp,g,d,tk,os⟩∧∃i,bO=(items.toList.zip items2.toList).drop i∧
      R (.ok (.ret (.bool (iL e r (decide (items2.size < items.size)) ((List.range (min items.size items2.size)).drop i))))) ⟨hp,g,d,tk,os⟩) _
    case turn=>
      rintro ⟨y,x⟩ bO b s' ⟨hb',rfl,i,hz,hR⟩
      have hlt:i < (items.toList.zip items2.toList).length:=by
        rcases Nat.lt_or_ge i (items.toList.zip items2.toList).length with h' | h'
        · exact h'
        · rw [List.drop_of_length_le h'] at hz;cases hz
      have hm:i < min items.size items2.size:=hZ▸hlt
      have h1:i < items.size:=Nat.lt_of_lt_of_le hm (Nat.min_le_left _ _)
      have h2:i < items2.size:=Nat.lt_of_lt_of_le hm (Nat.min_le_right _ _)
      rw [List.drop_eq_getElem_cons hlt] at hz
      injection hz with hyx hrest
      have hy:y=items[i]:=by have:=congrArg Prod.fst hyx;simpa using this
      have hx:x=items2[i]:=by have:=congrArg Prod.snd hyx;simpa using this
      subst hy hx
      have hd:(List.range (min items.size items2.size)).drop i=i::(List.range (min items.size items2.size)).drop (i+1):=by simp [List.drop_eq_getElem_cons,hm]
      rw [hd,iL] at hR
      refine wpAny_bind (he i h1 h2 prog w _ _ ?_)
      cases hy:e i with
      | true=>
        rw [hy,if_pos rfl] at hR
        wp_walk
        exact ⟨rfl,rfl,i+1,hrest,hR⟩
      | false=>
        rw [hy,if_neg (by decide)] at hR
        rw [show (!false)=true from rfl,if_pos rfl]
        refine wpAny_bind (wpAny_rule (wpAny_bind (hr i h1 h2 hy prog w _ _ ?_)))
        wp_walk
        exact ⟨_,rfl,hR⟩
    case fin=>
      rintro ⟨b1,b2⟩ s' ⟨hb',rfl,i,hz,hR⟩
      simp only at hb'
      subst hb'
      have hge:min items.size items2.size≤i:=by
        rcases Nat.lt_or_ge i (items.toList.zip items2.toList).length with h' | h'
        · rw [List.drop_eq_getElem_cons h'] at hz;cases hz
        · exact hZ▸h'
      rw [List.drop_of_length_le (by simpa using hge)] at hR
      wp_walk
      exact ⟨_,rfl,hR⟩
    case h=>
      exact ⟨rfl,rfl,0,rfl,by simpa using h⟩
section
variable {A:Around} {s:Shared}
theorem RcGtAt.tuples {l b:Addr} {items items2:Array Value} {e r:Nat→Bool} (hl:s.heap.IsTuple l items) (hb:s.heap.IsTuple b items2) (hu:A.units < cLine)
    (he:∀j (h1:j < items.size) (h2:j < items2.size),EqAt A.in1 s items[j] items2[j] (e j)) (hr:∀j (h1:j < items.size) (h2:j < items2.size),e j=false→RcGtAt A.in1 s items[j] items2[j] (r j)):RcGtAt A s (.ref l) (.ref b) (iL e r (decide (items2.size < items.size)) (List.range (min items.size items2.size))):=fun prog w E Q h=>by
  obtain ⟨⟨cls,dd,data,sl⟩,ho,hc,n,hd⟩:=id hl
  obtain ⟨⟨cls2,dd2,data2,sl2⟩,ho2,hc2,n2,kF⟩:=id hb
  simp only at hc hd hc2 kF
  subst hc hd hc2 kF
  exact richCompare_meets_room (op:= .Gt) ⟨_,ho,rfl⟩ ⟨_,ho2,rfl⟩ F.slot_tuple_gt F.entry_tuple_gt (F.args_tuple_gt_2 _ _) (o6 l b items items2 n n2 dd dd2 sl sl2 e r)
    ⟨ho,ho2,he,hr,show Value.bool _≠Value.notImplemented∧Q (.bool _) s from ⟨(fun x=>nomatch x),h⟩⟩ hu
theorem RcGtAt.ints (i j:Int) (t u:Tok):RcGtAt A s (.int i t) (.int j u) (decide (j < i)):=fun prog w E Q h=>PyProof.Rows.gt_int h
end
end PL
namespace Nh
open PySem L2
theorem NailsOk.stp {r:List Pc} {p:Pc} (h:NailsOk r) (hp:p.1 < 128):NailsOk (NH.stp r p):=by
  cases r with
  | nil=>
    show NailsOk (if p.2=0 then [] else [p])
    split
    · exact h
    · intro q hq;rw [List.mem_singleton.mp hq];exact hp
  | cons x r=>
    rw [NH.ga]
    intro q hq
    rcases List.mem_append.mp hq with h1 | h1
    · unfold NH.kF at h1
      split at h1
      · split at h1
        · cases h1
        · rw [List.mem_singleton.mp h1];exact hp
      · split at h1
        · rw [List.mem_singleton.mp h1];exact h x (List.mem_cons_self ..)
        · rcases List.mem_cons.mp h1 with h2 | h2
          · rw [h2];exact hp
          · rw [List.mem_singleton.mp h2];exact h x (List.mem_cons_self ..)
    · exact h q (List.mem_cons_of_mem _ h1)
theorem NailsOk.foldl:∀(c:List Pc) {r:List Pc},NailsOk r→NailsOk c→NailsOk (c.foldl NH.stp r)
  | [],_,h,_=>h
  | p::c,_,h,hc=>NailsOk.foldl c (h.stp (hc p (List.mem_cons_self ..))) fun q hq=>hc q (List.mem_cons_of_mem _ hq)
theorem NailsOk.take {c:List Pc} (h:NailsOk c) (i:Nat):NailsOk (c.take i):=fun p hp=>h p (List.mem_of_mem_take hp)
theorem NailsOk.drop {c:List Pc} (h:NailsOk c) (i:Nat):NailsOk (c.drop i):=fun p hp=>h p (List.mem_of_mem_drop hp)
theorem NailsOk.reverse {c:List Pc} (h:NailsOk c):NailsOk c.reverse:=fun p hp=>h p (List.mem_reverse.mp hp)
theorem NailsOk.append {c d:List Pc} (h:NailsOk c) (h':NailsOk d):NailsOk (c++d):=fun p hp=>(List.mem_append.mp hp).elim (h p) (h' p)
theorem NailsOk.contr {c:List Pc} (h:NailsOk c):NailsOk (NH.contr c):=fun p hp=>by
  obtain ⟨q,hq,e⟩:=List.mem_map.mp hp
  subst e
  exact h q (List.mem_reverse.mp hq)
theorem NailsOk.short {c:List Pc} (h:NailsOk c):NailsOk (NH.short c):=(NailsOk.foldl c (fun _ z=>by cases z) h).reverse
end Nh
namespace Nh
open PySem L2 PL
theorem NailsOk.rep {c:List Pc} (h:NailsOk c) (k:Nat):NailsOk (List.replicate k c).flatten:=fun p hp=>by
  obtain ⟨l,hl,hpl⟩:=List.mem_flatten.mp hp
  rw [(List.mem_replicate.mp hl).2] at hpl
  exact h p hpl
theorem NailsOk.cutL {c:List Pc} (h:NailsOk c) (lo hi:Option Int):NailsOk (cutL c lo hi):=fun p hp=>h p (nr hp)
def l4 (i:Int):Nat:=[97,98,99,122].getD i.toNat 97
theorem zR (i:Int):l4 i < 128:=by
  unfold l4
  rw [List.getD_eq_getElem?_getD]
  have h:∀j:Nat,([97,98,99,122][j]?.getD 97) < 128:=fun j=>
    match j with
    | 0=>by decide
    | 1=>by decide
    | 2=>by decide
    | 3=>by decide
    | j+4=>by simp
  exact h _
theorem zS:∀j,j < 26→(Str.ofString "abcdefghijklmnopqrstuvwxyz").cps.toList[j]? =some (97+j):=by decide+kernel
theorem v6:∀j,j < 4→(Str.ofString "abcz").cps.toList[j]? =some ([97,98,99,122].getD j 97):=by decide+kernel
theorem l9 (v:Int):atI (Str.ofString "abcz").cps.toList (v % 4)=some (l4 (v % 4)):=by
  have h0:=Int.emod_nonneg v (show (4:Int)≠0 by decide)
  have h1:=Int.emod_lt_of_pos v (show (0:Int) < 4 by decide)
  rw [ul h0]
  exact v6 _ (by omega)
theorem AZ (v:Int):atI (Str.ofString "abcdefghijklmnopqrstuvwxyz").cps.toList (v % 26)=some (97+(v % 26).toNat):=by
  have h0:=Int.emod_nonneg v (show (26:Int)≠0 by decide)
  have h1:=Int.emod_lt_of_pos v (show (0:Int) < 26 by decide)
  rw [ul h0]
  exact zS _ (by omega)
theorem ig:(Str.ofString "abcz").length≤1000000:=by decide+kernel
theorem yt:(Str.ofString "abcdefghijklmnopqrstuvwxyz").length≤1000000:=by decide+kernel
theorem jn {i j:Int} (h1: -(2 ^ 64) < j) (h2:j < 2 ^ 64):bN i j=true:=by
  simp only [bN,Bool.or_eq_true,decide_eq_true_eq]
  exact .inl (.inr ⟨h1,h2⟩)
theorem qx {i j:Int} (h1: -(2 ^ 64) < i) (h2:i < 2 ^ 64):bN i j=true:=by
  simp only [bN,Bool.or_eq_true,decide_eq_true_eq]
  exact .inl (.inl ⟨h1,h2⟩)
theorem nD {j:Int} (h1:0 < j) (h2:j < 2 ^ 200):eQ j=true:=decide_eq_true ⟨h1,h2⟩
theorem b5 (i j:Int):vj (.int i) (.int j)=some (decide (i=j)):=rfl
theorem ii (i j:Str):vj (.str i) (.str j)=some (decide (i=j)):=rfl
theorem uD {c d:List Pc} (hc:NailsOk c) (hd:NailsOk d):vj (.list (c.map aw)) (.list (d.map aw))=some (decide (c=d)):=by
  have e:vj (.list (c.map aw)) (.list (d.map aw))=(if SeqAt.shaped (gN c)&&SeqAt.shaped (gN d) then some (PyData.eqv (gN c) (gN d)) else none):=rfl
  rw [e,iY hc,iY hd,tM]
  rfl
theorem l_ (a b:Nat):((⟨#[a]⟩:Str)=⟨#[b]⟩)=(a=b):=propext ⟨fun h=>by
  injection h with h
  simpa using congrArg Array.toList h,fun h=>by rw [h]⟩
end Nh
namespace L2
open PySem PySem.Spec PyProof.Rows
def qy (K:PySem.W.Frag) (h:Heap):Prop:=∀b q,jv K b=some q→h.get? b=some (PySem.W.tabObj #[])∧(∃c,PySem.W.CodeHd h c b)∧K.lookup b=none
def cm (K:PySem.W.Frag) (a:Addr) (so:Option HO):Hp:=fun b=>match jv K b with
  | some q=>some (.tbl q)
  | none=>if b=a then so else none
theorem o7 {K:PySem.W.Frag} {a b:Addr} {so:Option HO} {q:Str} (e:jv K b=some q):cm K a so b=some (.tbl q):=by unfold cm;rw [e]
theorem sg {K:PySem.W.Frag} {a:Addr} {so:Option HO} (e:jv K a=none):cm K a so a=so:=by unfold cm;rw [e];exact if_pos rfl
theorem d0 {K:PySem.W.Frag} {a b:Addr} {so:Option HO} {u:HO} (e:cm K a so b=some u):(∃q,jv K b=some q∧u= .tbl q)∨(b=a∧so=some u):=by
  unfold cm at e
  split at e
  · rename_i q h;cases e;exact .inl ⟨q,h,rfl⟩
  · by_cases hb:b=a
    · rw [if_pos hb] at e;exact .inr ⟨hb,e⟩
    · rw [if_neg hb] at e;cases e
section
variable {P:Program} {w:World} {K:PySem.W.Frag} {mg mb:Str→Option Value} {CX:sO} {k:Nat} {fa a:Addr} {fd:FuncData} {x:Str} {sp:Sp} {s₁:Shared} {vs:List Value} {ns:List Int}
theorem v7 (KX:K.In s₁.heap) (hns:s₁.heap.Ns mainGlobals mg) (hb:s₁.heap.Ns builtinsNs mb) (hbb:∀x:Str,x≠"__name__"→mb x=bootBuiltins x) (hlim:s₁.heap.NoLimit) (hg:s₁.gens=#[]) (hbm:∃bm ob,mg "__builtins__"=some (.ref bm)∧bm≠builtinsNs∧s₁.heap.get? bm=some ob∧ob.cls= .type "module"∧ob.dict=some builtinsNs∧ob.data= .plain) (hT:qy K s₁.heap)
    (ha:s₁.heap.get? a=some {cls:= .type "list",data:= .seq vs.toArray}) (hi:IntsAre vs ns) (hl:ns.length≤sizeLine) (hr:Room k callerA)
    (F:∀base:Heap,K.In base→base.Ns mainGlobals mg→FnOk P w K mg base CX k fa fd [x] sp) (hbind:∀(s:Shared) (u:Value),BindsTo s fd ⟨[u],[]⟩ [(x,u)])
    (hsp:∀H:Hp,SqL K H a (ns.map V.int)→sp [.ref a] H (fun v _=>v= .bl true) fun _ _ _=>False)
    (hCX:∀H e s',CX [] H s₁ (fun _ _ _=>False) e s'→False):
    codeAny (model P w) callerA (.call (.ref fa) ⟨[.ref a],[]⟩) (fun r s'=>r= .ok (.ret (.bool true))∧OldK s₁.heap s'.heap∧s'.os=s₁.os∧AllBare s'.gens) s₁:=by
  have rv:=gy hi
  have lenV:=hi.length
  have tabA:jv K a=none:=by
    cases q:jv K a with
    | none=>rfl
    | some z=>
      have e:=(hT a z q).1
      rw [ha] at e
      cases e
  have main:∀so:Option HO,(so=none∨(so=some (.frz {cls:= .type "list",data:= .seq vs.toArray} (.lst (ns.map V.int)))∧K.lookup a=none))→SqL K (cm K a so) a (ns.map V.int)→
      codeAny (model P w) callerA (.call (.ref fa) ⟨[.ref a],[]⟩) (fun r s'=>r= .ok (.ret (.bool true))∧OldK s₁.heap s'.heap∧s'.os=s₁.os∧AllBare s'.gens) s₁:=by
    intro so hso hS
    have hok:HOk P w (cm K a so) s₁.heap:=fun b u e=>by
      rcases d0 e with ⟨q,e1,rfl⟩ | ⟨rfl,e1⟩
      · exact ObjOk.tbl0 (hT b q e1).1
      · rcases hso with z | ⟨z,_⟩
        · rw [z] at e1;cases e1
        · rw [z] at e1;cases e1
          exact ⟨ha,by rw [List.length_map];exact hl,vs,_,rv,ha⟩
    have free:∀{b:Addr} {o:Obj} {es:Array DictEntry} {ep:Nat},s₁.heap.get? b=some o→o.data= .dict es ep→cm K a so b=none:=fun {b o es ep} e d=>by
      cases q:cm K a so b with
      | none=>rfl
      | some u=>
        rcases d0 q with ⟨z,e1,_⟩ | ⟨rfl,_⟩
        · rw [(hT b z e1).1] at e;cases e;cases d
        · rw [ha] at e;cases e;cases d
    have nsK:∀{b:Addr} {m:Str→Option Value},s₁.heap.Ns b m→(mR s₁.heap (cm K a so)).Ns b m:=fun {b m} ⟨o,es,ep,e,d,r⟩=>⟨o,es,ep,ju e (free e d),d,r⟩
    have kin:K.In (mR s₁.heap (cm K a so)):=fun b o e=>ju (KX b o e) (by
      cases q:cm K a so b with
      | none=>rfl
      | some u=>
        rcases d0 q with ⟨z,e1,_⟩ | ⟨rfl,e1⟩
        · rw [(hT b z e1).2.2] at e;cases e
        · rcases hso with z | ⟨_,z⟩
          · rw [z] at e1;cases e1
          · rw [z] at e;cases e)
    have bmK:∃bm ob,mg "__builtins__"=some (.ref bm)∧bm≠builtinsNs∧(mR s₁.heap (cm K a so)).get? bm=some ob∧ob.cls= .type "module"∧ob.dict=some builtinsNs∧ob.data= .plain:=by
      obtain ⟨bm,ob,c1,c2,c3,c4,c5⟩:=hbm
      refine ⟨bm,ob,c1,c2,ju c3 ?_,c4,c5⟩
      cases q:cm K a so bm with
      | none=>rfl
      | some u=>
        rcases d0 q with ⟨z,e1,_⟩ | ⟨rfl,_⟩
        · rw [(hT bm z e1).1] at c3;cases c3;cases c4
        · rw [ha] at c3
          cases c3
          injection c4 with c6
          exact absurd c6 (by decide)
    have e0:Env0 P w K mg (mR s₁.heap (cm K a so)) callerA [] s₁ (cm K a so):=
      ⟨rfl,⟨kin,nsK hns,⟨mb,nsK hb,hbb⟩,let ⟨mc,h1,h2⟩:=hlim;⟨mc,nsK h1,h2⟩,bmK⟩,fun b o e=>vk e,Nat.le_of_eq (rh _ _),trivial,fun b hb=>absurd (show b∈([]:List Addr) from hb) (by simp),hok, .of_eq hg,fun b q e=>o7 e⟩
    refine codeAny_mono ((F _ kin (nsK hns)).run callerA [] s₁ _ ⟨[.ref a],[]⟩ [.ref a] [.ref a] _ _ hr e0 (hbind s₁ (.ref a)) (.cons rfl .nil) (hsp _ hS)) fun r s' h=>?_
    cases r with
    | error e=>exact (hCX _ e s' h).elim
    | ok fl=>
      cases fl with
      | next=>exact False.elim h
      | brk=>exact False.elim h
      | cont=>exact False.elim h
      | ret u=>
        obtain ⟨v,H',os,bare,un,hok',r',q⟩:=h
        have q':v= .bl true:=q
        subst q'
        obtain rfl:u=Value.bool true:=r'
        have nofs:∀b,b∉sN ([]:List Env):=fun b z=>absurd (show b∈([]:List Addr) from z) (by simp)
        have step:∀b o,s₁.heap.get? b=some o→asItWas s₁.heap s'.heap b o∧∃o',s'.heap.get? b=some o':=fun b o e=>by
          cases q:cm K a so b with
          | none=>exact ⟨.inl (un.keep b o e q (nofs b) (by simp)),_,un.keep b o e q (nofs b) (by simp)⟩
          | some u=>
            rcases d0 q with ⟨z,e1,rfl⟩ | ⟨rfl,e1⟩
            · obtain ⟨t1,⟨c,t2⟩,_⟩:=hT b z e1
              obtain ⟨ps,p1,_⟩:=hok' b _ (un.tbls b z q)
              rw [t1] at e
              cases e
              exact ⟨.inr (.inl ⟨(t2.tab t1).isCodeTable,rfl,#[],ps,rfl,by simpa using p1⟩),_,p1⟩
            · rcases hso with z | ⟨z,_⟩
              · rw [z] at e1;cases e1
              · rw [z] at e1;cases e1
                have z2:=un.frzs b _ _ q
                obtain ⟨e2,_⟩:=hok' b _ z2
                rw [ha] at e;cases e
                exact ⟨.inl e2,_,e2⟩
        exact ⟨rfl,⟨fun b o e=>(step b o e).1,fun b o e=>(step b o e).2⟩,os,bare⟩
  cases hk:K.lookup a with
  | some o=>
    have e:=KX a o hk
    rw [ha] at e
    cases e
    exact main none (.inl rfl) (.inr ⟨_,vs.toArray,_,hk,rfl,rfl,rfl,by rw [List.size_toArray,lenV];exact hl,by simpa using rv⟩)
  | none=>exact main _ (.inr ⟨rfl,hk⟩) (.inl (.inr ⟨_,sg tabA⟩))
end
theorem uE {l:PySem.W.OpenLaw} {n k:Nat} {q:Program} {loose:List Str} {XP:(Str→Option Value)→Heap→Prop} {YP:World→Heap→Prop} {d:DefRec} {K:Params→PySem.W.Frag} {CX:World→sO} {sp:World→Sp} {x:Str}
    (hn:l.most=some n) (hn2:n≤sizeLine) (hdf:d.params.defaults=[]) (hr:Room k callerA)
    (hY:∀(w:World) (h:Heap),YP w h→(K w.params).In h∧qy (K w.params) h)
    (F:∀(w:World) (mg:Str→Option Value) (fa:Addr) (h:Heap),(K w.params).In h→h.Ns mainGlobals mg→mg d.name=some (.ref fa)→
      ∃fd:FuncData,(∀(s:Shared) (u:Value),BindsTo s fd ⟨[u],[]⟩ [(x,u)])∧
        ∀base:Heap,(K w.params).In base→base.Ns mainGlobals mg→FnOk l.prog w (K w.params) mg base (CX w) k fa fd [x] (sp w))
    (hsp:∀(w:World) (H:Hp) (a:Addr) (ns:List Int),ns.length≤n→SqL (K w.params) H a (ns.map V.int)→sp w [.ref a] H (fun v _=>v= .bl true) fun _ _ _=>False)
    (hCX:∀(w:World) (H:Hp) (s:Shared) (e:Value) (s':Shared),CX w [] H s (fun _ _ _=>False) e s'→False):
    PySem.W.WalkO q loose XP YP l.row.toRowW d [] (fun f vs=>PySem.call f vs):=by
  refine Att.mY hn hdf fun w s₀ s₁ mg mb fa o pm cd doc a vs ns G Y ho hd hcd hmg hobj hints hlen hg=>?_
  obtain ⟨KX,KT⟩:=hY w _ Y
  obtain ⟨fd,hb,hF⟩:=F w mg fa _ KX G.T.g hmg
  exact v7 KX G.T.g G.T.b G.T.builtins G.T.nolimit hg G.T.bmain KT hobj hints (Nat.le_trans hlen hn2) hr hF hb (fun H hS=>hsp w H a ns hlen hS) fun H e s'=>hCX w H s₁ e s'
end L2
namespace NH
def yZ:Nat→Nat→Nat
  | _,0=>1
  | 0,_+1=>0
  | n+1,k+1=>yZ n (k+1)+yZ n k
def y0:Nat→Nat→Int
  | _,0=>1
  | 0,_+1=>0
  | m+1,k+1=>y0 m (k+1) - y0 (m+1) k
def ch (n:Int) (k:Nat):Int:=match n with
  | .ofNat n=>(yZ n k:Int)
  | .negSucc m=>y0 (m+1) k
theorem aD (n:Int):ch n 0=1:=by
  cases n with
  | ofNat n=>simp [ch,yZ]
  | negSucc m=>simp [ch,y0]
theorem gE (k:Nat):ch 0 k=if k=0 then 1 else 0:=by
  cases k with
  | zero=>rfl
  | succ k=>simp [ch,yZ]
theorem dh (n:Int) (k:Nat):ch (n+1) (k+1)=ch n (k+1)+ch n k:=by
  cases n with
  | ofNat n=>
    show ch (Int.ofNat (n+1)) (k+1)=_
    simp only [ch,yZ]
    omega
  | negSucc m=>
    cases m with
    | zero=>
      have e:Int.negSucc 0+1=0:=rfl
      rw [e,gE]
      simp only [ch,y0]
      simp
      omega
    | succ m=>
      have e:Int.negSucc (m+1)+1=Int.negSucc m:=by omega
      rw [e]
      simp only [ch,y0]
      omega
theorem o8 {f g:Int→Nat→Int} (h0:∀k,f 0 k=g 0 k) (hk:∀n,f n 0=g n 0) (pf:∀n k,f (n+1) (k+1)=f n (k+1)+f n k) (pg:∀n k,g (n+1) (k+1)=g n (k+1)+g n k):∀(n:Int) (k:Nat),f n k=g n k:=by
  have up:∀(n k:Nat),f (n:Int) k=g (n:Int) k:=fun n=>by
    induction n with
    | zero=>intro k;exact h0 k
    | succ n ih=>
      intro k
      cases k with
      | zero=>exact hk _
      | succ k=>
        have e:((n+1:Nat):Int)=(n:Int)+1:=by omega
        rw [e,pf,pg,ih,ih]
  have down:∀(m k:Nat),f (-(m:Int)) k=g (-(m:Int)) k:=fun m=>by
    induction m with
    | zero=>intro k;exact h0 k
    | succ m ih=>
      intro k
      induction k with
      | zero=>exact hk _
      | succ k ik=>
        have e: -((m+1:Nat):Int)+1= -(m:Int):=by omega
        have a:=pf (-((m+1:Nat):Int)) k
        have b:=pg (-((m+1:Nat):Int)) k
        rw [e] at a b
        rw [ih] at a
        omega
  intro n k
  rcases Int.le_total 0 n with h | h
  · have e:n=((n.toNat:Nat):Int):=by omega
    rw [e];exact up _ _
  · have e:n= -(((-n).toNat:Nat):Int):=by omega
    rw [e];exact down _ _
theorem ma:∀(n:Int) (k:Nat),((k:Int)+1)*ch n (k+1)=(n - k)*ch n k:=by
  have zero:∀k:Nat,((k:Int)+1)*ch 0 (k+1)=(0 - k)*ch 0 k:=fun k=>by
    rw [gE,gE]
    cases k with
    | zero=>simp
    | succ k=>simp
  have up:∀n:Int,(∀k:Nat,((k:Int)+1)*ch n (k+1)=(n - k)*ch n k)→∀k:Nat,((k:Int)+1)*ch (n+1) (k+1)=(n+1 - k)*ch (n+1) k:=fun n ih k=>by
    have h:=ih k
    rw [dh]
    cases k with
    | zero=>
      rw [aD] at h
      rw [aD n,aD (n+1)]
      simp at h ⊢
      omega
    | succ k=>
      have h2:=ih k
      clear ih zero
      rw [dh]
      have e:((k+1:Nat):Int)=(k:Int)+1:=by omega
      rw [e] at h ⊢
      generalize (k:Int)=z at *
      grind
  have down:∀n:Int,(∀k:Nat,((k:Int)+1)*ch (n+1) (k+1)=(n+1 - k)*ch (n+1) k)→∀k:Nat,((k:Int)+1)*ch n (k+1)=(n - k)*ch n k:=fun n ih k=>by
    induction k with
    | zero=>
      have h:=ih 0
      rw [dh,aD,aD] at h
      rw [aD]
      simp at h ⊢
      omega
    | succ k ik=>
      have h:=ih (k+1)
      clear ih zero up
      rw [dh,dh] at h
      have e:((k+1:Nat):Int)=(k:Int)+1:=by omega
      rw [e] at h ⊢
      generalize (k:Int)=z at *
      grind
  have ups:∀(n k:Nat),((k:Int)+1)*ch n (k+1)=((n:Int) - k)*ch n k:=fun n=>by
    induction n with
    | zero=>exact zero
    | succ n ih=>exact up n ih
  have downs:∀(m k:Nat),((k:Int)+1)*ch (-(m:Int)) (k+1)=(-(m:Int) - k)*ch (-(m:Int)) k:=fun m=>by
    induction m with
    | zero=>exact zero
    | succ m ih=>
      refine down (-((m+1:Nat):Int)) ?_
      have e: -((m+1:Nat):Int)+1= -(m:Int):=by omega
      rw [e]
      exact ih
  intro n k
  rcases Int.le_total 0 n with h | h
  · have e:n=((n.toNat:Nat):Int):=by omega
    rw [e];exact ups _ _
  · have e:n= -(((-n).toNat:Nat):Int):=by omega
    rw [e];exact downs _ _
def ff (n:Int):Nat→Int
  | 0=>1
  | k+1=>ff n k*(n - k)
def o9:Nat→Int
  | 0=>1
  | k+1=>o9 k*((k:Int)+1)
theorem md:∀k,0 < o9 k
  | 0=>by decide
  | k+1=>Int.mul_pos (md k) (by omega)
theorem wY (n:Int):∀k,ff n k=o9 k*ch n k
  | 0=>by rw [aD];rfl
  | k+1=>by
    have h:=ma n k
    show ff n k*(n - k)=o9 k*((k:Int)+1)*ch n (k+1)
    rw [wY n k]
    generalize ch n (k+1)=x at *
    generalize ch n k=y at *
    generalize o9 k=z at *
    generalize (k:Int)=t at *
    grind
theorem yu (n:Int) (k:Nat):ff n k / o9 k=ch n k:=by
  rw [wY]
  exact Int.mul_ediv_cancel_left _ (Int.ne_of_gt (md k))
section
variable {α:Type}
def conv (f g:List α→Int):List α→Int
  | []=>f []*g []
  | a::w=>f []*g (a::w)+conv (fun u=>f (a::u)) g w
def oC:List α→Int
  | []=>1
  | _::_=>0
theorem de {f f' g g':List α→Int} (hf:∀w,f w=f' w) (hg:∀w,g w=g' w) (w:List α):conv f g w=conv f' g' w:=by
  have e1:f=f':=funext hf
  have e2:g=g':=funext hg
  rw [e1,e2]
theorem nE (c:Int) (p q h:List α→Int):∀w,conv (fun u=>c*p u+q u) h w=c*conv p h w+conv q h w
  | []=>by simp only [conv];grind
  | a::w=>by
    have ih:=nE c (fun u=>p (a::u)) (fun u=>q (a::u)) h w
    simp only [conv]
    rw [ih]
    grind
theorem g7:∀(w:List α) (f g h:List α→Int),conv (conv f g) h w=conv f (conv g h) w
  | [],f,g,h=>by simp only [conv];grind
  | a::w,f,g,h=>by
    have e:(fun u=>conv f g (a::u))=fun u=>f []*g (a::u)+conv (fun v=>f (a::v)) g u:=rfl
    have ih:=g7 w (fun v=>f (a::v)) g h
    show conv f g []*h (a::w)+conv (fun u=>conv f g (a::u)) h w=f []*conv g h (a::w)+conv (fun v=>f (a::v)) (conv g h) w
    rw [e,nE,ih]
    simp only [conv]
    grind
theorem eU (g:List α→Int):∀w,conv (fun _=>0) g w=0
  | []=>by simp [conv]
  | a::w=>by simp [conv,eU g w]
theorem nG (f:List α→Int):∀w,conv oC f w=f w
  | []=>by simp [conv,oC]
  | a::w=>by
    have e:(fun u=>oC (a::u))=fun (_:List α)=>(0:Int):=rfl
    simp only [conv,e,eU,oC]
    omega
theorem nH:∀(w:List α) (f:List α→Int),conv f oC w=f w
  | [],f=>by simp [conv,oC]
  | a::w,f=>by
    have ih:=nH w fun u=>f (a::u)
    simp only [conv,ih,oC]
    omega
end
section
variable {α:Type} [DecidableEq α]
def di (p:α×Int) (w:List α):Int:=if w.all (fun b=>decide (b=p.1)) then ch p.2 w.length else 0
def aB (w:List α) (c:List (α×Int)):Int:=c.foldr (fun p f=>conv (di p) f) oC w
theorem iM (w:List α):aB w []=oC w:=rfl
theorem bL (w:List α) (p:α×Int) (c:List (α×Int)):aB w (p::c)=conv (di p) (fun v=>aB v c) w:=rfl
theorem me (w:List α) (c d:List (α×Int)):aB w (c++d)=conv (fun u=>aB u c) (fun v=>aB v d) w:=by
  induction c generalizing w with
  | nil=>exact (nG _ w).symm
  | cons p c ih=>
    rw [List.cons_append,bL,de (fun _=>rfl) ih,←g7]
    rfl
def vs (j:Nat) (m n:Int):Nat→Int
  | 0=>ch m j
  | k+1=>ch m j*ch n (k+1)+vs (j+1) m n k
theorem qz (m:Int):∀(k j:Nat),vs j m 0 k=ch m (j+k)
  | 0,j=>rfl
  | k+1,j=>by
    simp only [vs,gE,qz m k (j+1)]
    rw [show j+1+k=j+(k+1) by omega]
    simp
theorem kZ (m n:Int):∀(k j:Nat),vs j m (n+1) (k+1)=vs j m n (k+1)+vs j m n k
  | 0,j=>by
    simp only [vs,dh,aD]
    grind
  | k+1,j=>by
    have ih:=kZ m n k (j+1)
    rw [vs,ih,dh]
    simp only [vs]
    grind
theorem nI (m n:Int) (k:Nat):vs 0 m n k=ch (m+n) k:=by
  refine o8 (f:=fun n k=>vs 0 m n k) (g:=fun n k=>ch (m+n) k) (fun k=>?_) (fun n=>?_) (fun n k=>kZ m n k 0) (fun n k=>?_) n k
  · rw [qz,Nat.zero_add,Int.add_zero]
  · simp only [vs,aD]
  · show ch (m+(n+1)) (k+1)=_
    rw [show m+(n+1)=m+n+1 by omega,dh]
theorem gR (a:α) (m n:Int):∀(k j:Nat) (w:List α),w.length=k→conv (fun u=>if u.all (fun b=>decide (b=a)) then ch m (j+u.length) else 0) (di (a,n)) w=if w.all (fun b=>decide (b=a)) then vs j m n k else 0
  | 0,j,[],_=>by simp [conv,di,vs,aD]
  | k+1,j,b::w,h=>by
    have hl:w.length=k:=by simpa using h
    by_cases e:b=a
    · subst e
      have f:(fun u:List α=>if ((b::u).all fun c=>decide (c=b))=true then ch m (j+(b::u).length) else 0)=fun u=>if (u.all fun c=>decide (c=b))=true then ch m (j+1+u.length) else 0:=by
        funext u
        simp only [List.all_cons,decide_true,Bool.true_and,List.length_cons]
        rw [show j+(u.length+1)=j+1+u.length by omega]
      have ih:=gR b m n k (j+1) w hl
      simp only [conv]
      rw [f,ih]
      simp only [List.all_nil,if_true,List.length_nil,Nat.add_zero,di,List.all_cons,decide_true,Bool.true_and,List.length_cons,hl]
      by_cases c:(w.all fun c=>decide (c=b))=true
      · simp only [c,if_true,vs]
      · simp [c]
    · have f:(fun u:List α=>if ((b::u).all fun c=>decide (c=a))=true then ch m (j+(b::u).length) else 0)=fun _=>0:=by
        funext u
        simp [e]
      simp only [conv]
      rw [f,eU]
      simp [di,e]
theorem nJ (a:α) (m n:Int) (w:List α):conv (di (a,m)) (di (a,n)) w=di (a,m+n) w:=by
  have h:=gR a m n w.length 0 w rfl
  have e:(fun u:List α=>if (u.all fun b=>decide (b=a))=true then ch m (0+u.length) else 0)=di (a,m):=by
    funext u
    simp [di]
  rw [e] at h
  rw [h,nI]
  rfl
theorem o_ (a:α) (w:List α):di (a,0) w=oC w:=by
  cases w with
  | nil=>simp [di,oC,gE]
  | cons b w=>simp [di,oC,gE]
theorem si (w:List α) (p:α×Int) (r:List (α×Int)):aB w (stp r p)=aB w (p::r):=by
  have zero:∀(n:α) (r:List (α×Int)) (w:List α),aB w ((n,0)::r)=aB w r:=fun n r w=>by
    rw [bL,de (o_ n) (fun _=>rfl),nG]
  have two:∀(n:α) (a b:Int) (r:List (α×Int)) (w:List α),aB w ((n,a)::(n,b)::r)=aB w ((n,a+b)::r):=fun n a b r w=>by
    rw [bL,de (fun _=>rfl) (fun v=>bL v (n,b) r),←g7,de (nJ n a b) (fun _=>rfl),←bL]
  obtain ⟨n,a⟩:=p
  cases r with
  | nil=>
    show aB w (if a=0 then [] else [(n,a)])=_
    by_cases h:a=0
    · subst h;rw [if_pos rfl,zero]
    · rw [if_neg h]
  | cons q r=>
    obtain ⟨m,b⟩:=q
    show aB w (if m=n then (if b+a=0 then r else (n,b+a)::r) else (if a=0 then (m,b)::r else (n,a)::(m,b)::r))=_
    by_cases e:m=n
    · subst e
      rw [if_pos rfl,two]
      by_cases h:b+a=0
      · rw [if_pos h,show a+b=0 by omega,zero]
      · rw [if_neg h,Int.add_comm]
    · rw [if_neg e]
      by_cases h:a=0
      · subst h;rw [if_pos rfl,zero]
      · rw [if_neg h]
theorem pc (c:List (α×Int)):∀w:List α,aB w (xT c)=aB w c:=by
  induction c with
  | nil=>intro w;rfl
  | cons p c ih=>
    intro w
    show aB w (stp (xT c) p)=_
    rw [si,bL,bL,de (fun _=>rfl) ih]
theorem nK (w:List α) (c:List (α×Int)):aB w (short c)=aB w c:=by rw [gM,pc]
def Unlike:List α→Prop
  | []=>True
  | [_]=>True
  | a::b::w=>a≠b∧Unlike (b::w)
theorem Unlike.tail {a:α} {w:List α} (h:Unlike (a::w)):Unlike w:=by
  cases w with
  | nil=>trivial
  | cons b w=>exact h.2
theorem k5:∀(w:List α) (f g:List α→Int) (a:α),conv f g (w++[a])=f (w++[a])*g []+conv f (fun v=>g (v++[a])) w
  | [],f,g,a=>by simp only [List.nil_append,conv];omega
  | b::w,f,g,a=>by
    have ih:=k5 w (fun u=>f (b::u)) g a
    simp only [List.cons_append,conv]
    rw [ih]
    omega
theorem pe (w:List α) (c:List (α×Int)) (p:α×Int):aB w (c++[p])=conv (fun u=>aB u c) (di p) w:=by
  rw [me]
  refine de (fun _=>rfl) (fun v=>?_) w
  rw [bL]
  exact nH v (di p)
def gn (f:List α→Int) (p:α×Int):List α→Nat→Int
  | [],k=>f []*ch p.2 k
  | a::w,k=>f (a::w).reverse*ch p.2 k+(if a=p.1 then gn f p w (k+1) else 0)
theorem fW (f:List α→Int):∀w,conv f (fun _=>0) w=0
  | []=>by simp [conv]
  | a::w=>by simp [conv,fW (fun u=>f (a::u)) w]
theorem i4 (f:List α→Int) (p:α×Int):∀(w:List α) (k:Nat),conv f (fun v=>if v.all (fun b=>decide (b=p.1)) then ch p.2 (v.length+k) else 0) w.reverse=gn f p w k
  | [],k=>by simp [conv,gn]
  | a::w,k=>by
    rw [List.reverse_cons,k5]
    have ih:=i4 f p w (k+1)
    simp only [List.all_nil,if_true,List.length_nil,Nat.zero_add,gn,List.reverse_cons]
    congr 1
    by_cases e:a=p.1
    · rw [if_pos e,←ih]
      refine de (fun _=>rfl) (fun v=>?_) _
      simp only [List.all_append,List.all_cons,List.all_nil,e,decide_true,Bool.and_true,List.length_append,List.length_cons,List.length_nil]
      rw [show v.length+(0+1)+k=v.length+(k+1) by omega]
    · rw [if_neg e]
      have z:(fun v:List α=>if ((v++[a]).all fun b=>decide (b=p.1))=true then ch p.2 ((v++[a]).length+k) else 0)=fun _=>0:=by
        funext v
        simp [e]
      rw [z,fW]
theorem mf (w:List α) (c:List (α×Int)) (p:α×Int):aB w (c++[p])=gn (fun u=>aB u c) p w.reverse 0:=by
  rw [pe,←i4,List.reverse_reverse]
  rfl
end
end NH
namespace NH
theorem qA (n:Int):∀k:Nat,(ch n k).natAbs≤(n.natAbs+k) ^ k
  | 0=>by rw [aD];simp
  | k+1=>by
    have h:=ma n k
    have ih:=qA n k
    have e:((k:Int)+1).natAbs*(ch n (k+1)).natAbs=(n - k).natAbs*(ch n k).natAbs:=by rw [←Int.natAbs_mul,h,Int.natAbs_mul]
    have k1:((k:Int)+1).natAbs=k+1:=by omega
    rw [k1] at e
    have h1:(ch n (k+1)).natAbs≤(k+1)*(ch n (k+1)).natAbs:=Nat.le_mul_of_pos_left _ (by omega)
    have h2:(n - k).natAbs≤n.natAbs+(k+1):=by omega
    have h3:(n.natAbs+k) ^ k≤(n.natAbs+(k+1)) ^ k:=Nat.pow_le_pow_left (by omega) k
    calc (ch n (k+1)).natAbs≤(n - k).natAbs*(ch n k).natAbs:=by rw [←e];exact h1
      _≤(n.natAbs+(k+1))*(n.natAbs+(k+1)) ^ k:=Nat.mul_le_mul h2 (Nat.le_trans ih h3)
      _=(n.natAbs+(k+1)) ^ (k+1):=by rw [Nat.pow_succ,Nat.mul_comm]
section
variable {α:Type}
theorem qB {b:Nat} {L:Nat} {g:List α→Int} (hg:∀v,v.length≤L→(g v).natAbs≤b ^ v.length):∀(w:List α) (f:List α→Int) (s a:Nat),w.length≤L→(∀u,u.length≤w.length→(f u).natAbs≤s*a ^ u.length)→(conv f g w).natAbs≤s*(a+b) ^ w.length
  | [],f,s,a,hl,hf=>by
    have h1:=hf [] (by simp)
    have h2:=hg [] (by simp)
    simp only [conv,Int.natAbs_mul,List.length_nil,Nat.pow_zero,Nat.mul_one] at h1 h2 ⊢
    calc (f []).natAbs*(g []).natAbs≤s*1:=Nat.mul_le_mul h1 h2
      _=s:=Nat.mul_one s
  | x::w,f,s,a,hl,hf=>by
    have ih:=qB hg w (fun u=>f (x::u)) (s*a) a (by simp at hl;omega) (fun u hu=>by
      have:=hf (x::u) (by simpa using hu)
      rw [List.length_cons,Nat.pow_succ,Nat.mul_comm (a ^ u.length),←Nat.mul_assoc] at this
      exact this)
    have h0:=hf [] (by simp)
    have hgw:=hg (x::w) hl
    simp only [List.length_nil,Nat.pow_zero,Nat.mul_one] at h0
    have t:=Int.natAbs_add_le (f []*g (x::w)) (conv (fun u=>f (x::u)) g w)
    have e1:(f []*g (x::w)).natAbs≤s*(b*(a+b) ^ w.length):=by
      rw [Int.natAbs_mul]
      refine Nat.mul_le_mul h0 (Nat.le_trans hgw ?_)
      rw [List.length_cons,Nat.pow_succ,Nat.mul_comm]
      exact Nat.mul_le_mul_left _ (Nat.pow_le_pow_left (by omega) _)
    have e2:s*(a+b) ^ (x::w).length=s*(b*(a+b) ^ w.length)+s*a*(a+b) ^ w.length:=by
      rw [List.length_cons,Nat.pow_succ,Nat.mul_comm ((a+b) ^ w.length),Nat.add_mul,Nat.mul_add,Nat.mul_assoc,Nat.add_comm]
    show (f []*g (x::w)+conv (fun u=>f (x::u)) g w).natAbs≤_
    omega
variable [DecidableEq α]
def bi:List (α×Int)→Nat
  | []=>0
  | p::c=>p.2.natAbs+bi c
theorem uF (p:α×Int) {L:Nat} (w:List α) (h:w.length≤L):(di p w).natAbs≤(p.2.natAbs+L) ^ w.length:=by
  unfold di
  split
  · exact Nat.le_trans (qA p.2 w.length) (Nat.pow_le_pow_left (by omega) _)
  · simp
theorem jY {L:Nat}:∀(c:List (α×Int)) (w:List α),w.length≤L→(aB w c).natAbs≤(bi c+L*c.length) ^ w.length
  | [],w,h=>by
    rw [iM]
    cases w with
    | nil=>simp [oC]
    | cons a w=>simp [oC]
  | p::c,w,h=>by
    rw [bL]
    have:=qB (b:=bi c+L*c.length) (L:=L) (g:=fun v=>aB v c) (fun v hv=>jY c v hv) w (di p) 1 (p.2.natAbs+L) h (fun u hu=>by rw [Nat.one_mul];exact uF p u (by omega))
    rw [Nat.one_mul] at this
    refine Nat.le_trans this (Nat.pow_le_pow_left ?_ _)
    simp only [bi,List.length_cons,Nat.mul_add]
    omega
theorem fb:∀c d:List (α×Int),bi (c++d)=bi c+bi d
  | [],d=>by simp [bi]
  | p::c,d=>by simp only [List.cons_append,bi,fb c d];omega
theorem jZ:∀{c:List (α×Int)} {p:α×Int},p∈c→p.2.natAbs≤bi c
  | q::c,p,h=>by
    simp only [bi]
    rcases List.mem_cons.mp h with rfl | h
    · omega
    · have:=jZ h;omega
theorem ij:∀c:List (α×Int),bi c.reverse=bi c
  | []=>rfl
  | p::c=>by rw [List.reverse_cons,fb,ij c];simp only [bi];omega
theorem uG (r:List (α×Int)) (p:α×Int):bi (stp r p)≤p.2.natAbs+bi r:=by
  cases r with
  | nil=>simp only [stp];split <;> simp [bi]
  | cons q r=>
    simp only [stp]
    split
    · split
      · simp only [bi];omega
      · simp only [bi];omega
    · split
      · simp only [bi];omega
      · simp only [bi];omega
end
end NH
namespace NH
section
variable {α:Type} [DecidableEq α]
theorem ph (c:List (α×Int)):bi (short c)≤bi c:=by
  have h:∀(c r:List (α×Int)),bi (c.foldl stp r)≤bi r+bi c:=fun c=>by
    induction c with
    | nil=>intro r;simp [bi]
    | cons p c ih=>
      intro r
      have h1:=ih (stp r p)
      have h2:=uG r p
      simp only [List.foldl_cons,bi]
      omega
  have:=h c []
  unfold short stk
  rw [ij]
  simpa [bi] using this
theorem mh {B:Nat}:∀c:List (α×Int),(∀p∈c,p.2.natAbs < B)→bi c≤c.length*B
  | [],_=>by simp [bi]
  | p::c,h=>by
    have h1:=h p (List.mem_cons_self ..)
    have h2:=mh c fun q hq=>h q (List.mem_cons_of_mem _ hq)
    simp only [bi,List.length_cons,Nat.succ_mul]
    omega
def d_ (a:α):List α→Nat
  | []=>0
  | b::r=>if b=a then d_ a r+1 else 0
theorem mi (a:α):∀r:List α,d_ a r≤r.length
  | []=>Nat.le_refl _
  | b::r=>by have:=mi a r;simp only [d_];split <;> simp <;> omega
def dJ (h:Nat→Int):Nat→Int
  | 0=>0
  | n+1=>dJ h n+h n
theorem fO {h h':Nat→Int}:∀(n:Nat),(∀j,j < n→h j=h' j)→dJ h n=dJ h' n
  | 0,_=>rfl
  | n+1,e=>by rw [dJ,dJ,fO n fun j hj=>e j (by omega),e n (by omega)]
theorem k6 (h:Nat→Int):∀n,dJ h (n+1)=h 0+dJ (fun j=>h (j+1)) n
  | 0=>by simp [dJ]
  | n+1=>by rw [dJ,k6 h n,dJ];omega
theorem i5 (f:List α→Int) (p:α×Int):∀(r:List α) (k:Nat),gn f p r k=f r.reverse*ch p.2 k+dJ (fun j=>f (r.drop (j+1)).reverse*ch p.2 (k+(j+1))) (d_ p.1 r)
  | [],k=>by simp [gn,d_,dJ]
  | a::r,k=>by
    rw [gn]
    by_cases e:a=p.1
    · rw [if_pos e,i5 f p r (k+1)]
      simp only [d_,if_pos e]
      rw [k6]
      simp only [List.drop_succ_cons,List.drop_zero,Nat.zero_add]
      rw [fO (d_ p.1 r) (h':=fun j=>f (r.drop (j+1)).reverse*ch p.2 (k+(j+1+1))) fun j _=>by rw [show k+1+(j+1)=k+(j+1+1) by omega]]
    · rw [if_neg e]
      simp only [d_,if_neg e,dJ]
def i6 (w:List α) (c:List (α×Int)) (k:Nat):Int:=aB (w.take k) c
theorem kd (w:List α) (k j:Nat) (h:k≤w.length):((w.take k).reverse.drop j).reverse=w.take (k - j):=by
  rw [List.drop_reverse,List.reverse_reverse,List.length_take,Nat.min_eq_left h,List.take_take,Nat.min_eq_left (by omega)]
theorem j0 (w:List α) (c:List (α×Int)) (p:α×Int) (k:Nat) (h:k≤w.length):i6 w (c++[p]) k=i6 w c k+dJ (fun j=>i6 w c (k - (j+1))*ch p.2 (j+1)) (d_ p.1 (w.take k).reverse):=by
  unfold i6
  rw [mf,i5,List.reverse_reverse,aD,Int.mul_one]
  congr 1
  refine fO _ fun j _=>?_
  rw [kd w k (j+1) h,Nat.zero_add]
end
end NH
namespace NH
section
variable {α:Type} [DecidableEq α]
def Rot (a b:List (α×Int)):Prop:=∃u v,a=u++v∧b=v++u
theorem Rot.refl (a:List (α×Int)):Rot a a:=⟨[],a,rfl,by simp⟩
theorem Rot.symm {a b:List (α×Int)} (h:Rot a b):Rot b a:=let ⟨u,v,e,f⟩:=h;⟨v,u,f,e⟩
theorem Rot.trans {a b c:List (α×Int)} (h:Rot a b) (k:Rot b c):Rot a c:=by
  obtain ⟨u,v,rfl,e⟩:=h
  obtain ⟨x,y,e2,rfl⟩:=k
  rw [e] at e2
  rcases List.append_eq_append_iff.mp e2 with ⟨w,e3,e4⟩ | ⟨w,e3,e4⟩
  · subst e3 e4
    exact ⟨w,y++v,by simp,by simp⟩
  · subst e3 e4
    exact ⟨u++x,w,by simp,by simp⟩
theorem Rot.eq {a b:List (α×Int)} (h:a=b):Rot a b:=h▸Rot.refl a
theorem Rot.len {a b:List (α×Int)} (h:Rot a b):a.length=b.length:=by
  obtain ⟨u,v,rfl,rfl⟩:=h
  simp [Nat.add_comm]
end
end NH
namespace Nh
open PySem L2 PL
def lp (p q:Pc):Bool:=if p.1=q.1 then decide (p.2 < q.2) else decide (p.1 < q.1)
def ll:List Pc→List Pc→Bool
  | [],[]=>false
  | [],_::_=>true
  | _::_,[]=>false
  | x::xs,y::ys=>if x=y then ll xs ys else lp x y
theorem uH {p q:Pc} (h:p≠q):lp p q=true∨lp q p=true:=by
  unfold lp
  by_cases e:p.1=q.1
  · rw [if_pos e,if_pos e.symm]
    simp only [decide_eq_true_eq]
    have:p.2≠q.2:=fun z=>h (by cases p;cases q;simp_all)
    omega
  · rw [if_neg e,if_neg (fun z=>e z.symm)]
    simp only [decide_eq_true_eq]
    omega
theorem nM:∀{a b:List Pc},a≠b→ll a b=true∨ll b a=true
  | [],[],h=>absurd rfl h
  | [],_::_,_=> .inl rfl
  | _::_,[],_=> .inr rfl
  | x::a,y::b,h=>by
    unfold ll
    by_cases e:x=y
    · subst e
      rw [if_pos rfl,if_pos rfl]
      exact nM fun z=>h (by rw [z])
    · rw [if_neg e,if_neg (fun z=>e z.symm)]
      exact uH e
def y7 (a:List Pc) (p:Nat):List Pc:=a.drop p++a.take p
def Bp (a:List Pc) (p:Nat):Prop:=∃q,q < a.length∧ll (y7 a q) (y7 a p)=true
def Least (a w:List Pc):Prop:=(∃p,p≤a.length∧w=y7 a p)∧∀p,p≤a.length→ll (y7 a p) w=false
structure Keep (a:List Pc) (i j k:Nat):Prop where
  ne:i≠j
  lo:i < a.length∨j < a.length
  kn:k≤a.length
  like:∀t,t < k→a[(i+t) % a.length]? =a[(j+t) % a.length]?
  out:∀p,p < a.length→p < i∨p < j→p≠i→p≠j→Bp a p
  out1:∀p,p < a.length→p < i∨p < j→p≠min i j→Bp a p
theorem Least.one {a w w':List Pc} (h:Least a w) (h':Least a w'):w=w':=by
  obtain ⟨⟨p,hp,rfl⟩,k⟩:=h
  obtain ⟨⟨p',hp',rfl⟩,k'⟩:=h'
  by_cases e:y7 a p=y7 a p'
  · exact e
  · rcases nM e with z | z
    · rw [k' p hp] at z;cases z
    · rw [k p' hp'] at z;cases z
end Nh
namespace NH
variable {α:Type} [DecidableEq α]
end NH
namespace NH
variable {α:Type} [DecidableEq α]
end NH
namespace Nh
open PySem L2 PL
def CordOk (c:List Pc):Prop:=∀p∈c,p.1 < 128∧p.2.natAbs < 2 ^ 100
theorem CordOk.n {c:List Pc} (h:CordOk c):NailsOk c:=fun p hp=>(h p hp).1
theorem CordOk.append {c d:List Pc} (h:CordOk c) (h':CordOk d):CordOk (c++d):=fun p hp=>(List.mem_append.mp hp).elim (h p) (h' p)
theorem CordOk.contr {c:List Pc} (h:CordOk c):CordOk (NH.contr c):=fun p hp=>by
  obtain ⟨q,hq,e⟩:=List.mem_map.mp hp
  subst e
  have:=h q (List.mem_reverse.mp hq)
  exact ⟨this.1,by simpa using this.2⟩
theorem CordOk.cutL {c:List Pc} (h:CordOk c) (lo hi:Option Int):CordOk (cutL c lo hi):=fun p hp=>h p (nr hp)
theorem j4:CordOk []:=fun _ z=>by cases z
theorem io {i j:Int} (h1:i.natAbs < 2 ^ 20000) (h2:j.natAbs < 2 ^ 20000):bN i j=true:=by
  have hb:oB=((2 ^ 20000:Nat):Int):=by unfold oB;exact (Int.natCast_pow 2 20000).symm
  have e: -oB < i∧i < oB∧ -oB < j∧j < oB:=by
    rw [hb]
    generalize 2 ^ 20000=B at h1 h2
    omega
  unfold bN
  rw [decide_eq_true e,Bool.or_true]
end Nh
namespace NH
section
variable {α:Type} [DecidableEq α]
abbrev Tb (α:Type):=List (List α×Int)
def bS (D:Tb α) (k:List α):Int:=match D with
  | []=>0
  | p::D=>if p.1=k then p.2 else bS D k
def ke (D:Tb α) (k:List α):Bool:=D.any fun p=>decide (p.1=k)
def gK (D:Tb α) (k:List α) (n:Int):Tb α:=if ke D k then D.map (fun p=>if p.1=k then (p.1,n) else p) else D++[(k,n)]
def iN (D:Tb α) (k:List α):Tb α:=D.filter fun p=> !decide (p.1=k)
def fv (D:Tb α) (f:List α→Int):Int:=(D.map fun p=>p.2*f p.1).sum
def Nd (D:Tb α):Prop:=(D.map (·.1)).Nodup
theorem hasK_iff {D:Tb α} {k:List α}:ke D k=true↔k∈D.map (·.1):=by
  simp only [ke,List.any_eq_true,decide_eq_true_eq,List.mem_map]
theorem qC {D:Tb α} {k:List α} (h:k∉D.map (·.1)):bS D k=0:=by
  induction D with
  | nil=>rfl
  | cons p D ih=>
    simp only [List.map_cons,List.mem_cons,not_or] at h
    rw [bS,if_neg (fun z=>h.1 z.symm),ih h.2]
theorem mj {D:Tb α} (nd:Nd D) {p:List α×Int} (h:p∈D):bS D p.1=p.2:=by
  induction D with
  | nil=>cases h
  | cons q D ih=>
    simp only [Nd,List.map_cons,List.nodup_cons] at nd
    rcases List.mem_cons.mp h with e | h
    · subst e;rw [bS,if_pos rfl]
    · rw [bS,if_neg (fun z=>nd.1 (by rw [z];exact List.mem_map.mpr ⟨p,h,rfl⟩)),ih nd.2 h]
theorem sj (D:Tb α) (k:List α) (n:Int):(gK D k n).map (·.1)=if ke D k then D.map (·.1) else D.map (·.1)++[k]:=by
  unfold gK
  split
  · rw [List.map_map]
    refine List.map_congr_left fun p _=>?_
    simp only [Function.comp]
    split <;> rfl
  · simp
theorem v8 {D:Tb α} (h:Nd D) (k:List α) (n:Int):Nd (gK D k n):=by
  unfold Nd
  rw [sj]
  split
  · exact h
  · rename_i e
    have e':k∉D.map (·.1):=fun z=>e (hasK_iff.mpr z)
    exact List.nodup_append.mpr ⟨h,by simp,fun a ha b hb=>by rw [List.mem_singleton.mp hb];exact fun z=>e' (z▸ha)⟩
theorem v9 {D:Tb α} (h:Nd D) (k:List α):Nd (iN D k):=List.Nodup.sublist (List.Sublist.map _ List.filter_sublist) h
theorem uI {D:Tb α} (k:List α) (n:Int) (j:List α):bS (gK D k n) j=if j=k then n else bS D j:=by
  unfold gK
  split
  · rename_i h
    induction D with
    | nil=>simp [ke] at h
    | cons p D ih=>
      rw [List.map_cons]
      by_cases e:p.1=k
      · rw [if_pos e]
        by_cases ej:j=k
        · rw [bS,if_pos (e.trans ej.symm),if_pos ej]
        · rw [bS,if_neg (fun z=>ej (z.symm.trans e)),if_neg ej,bS,if_neg (fun z=>ej (z.symm.trans e))]
          by_cases hh:ke D k=true
          · rw [ih hh,if_neg ej]
          · have:D.map (fun p=>if p.1=k then (p.1,n) else p)=D:=by
              refine (List.map_congr_left fun q hq=>?_).trans (List.map_id D)
              rw [if_neg (fun z=>hh (hasK_iff.mpr (List.mem_map.mpr ⟨q,hq,z⟩)))];rfl
            rw [this]
      · rw [if_neg e,bS]
        have hh:ke D k=true:=by
          simp only [ke,List.any_cons,Bool.or_eq_true,decide_eq_true_eq] at h
          exact h.resolve_left e
        rw [ih hh]
        by_cases ej:j=k
        · rw [if_neg (fun z=>e (z.trans ej)),if_pos ej,if_pos ej]
        · rw [if_neg ej,if_neg ej];rfl
  · rename_i h
    have h':k∉D.map (·.1):=fun z=>h (hasK_iff.mpr z)
    clear h
    induction D with
    | nil=>
      simp only [List.nil_append,bS]
      by_cases ej:j=k
      · simp [ej]
      · rw [if_neg ej,if_neg (fun z=>ej z.symm)]
    | cons p D ih=>
      simp only [List.map_cons,List.mem_cons,not_or] at h'
      rw [List.cons_append,bS,ih h'.2]
      by_cases ej:j=k
      · rw [if_neg (fun z=>h'.1 (ej.symm.trans z.symm)),if_pos ej,if_pos ej]
      · rw [if_neg ej,if_neg ej];rfl
theorem uJ {D:Tb α} (k:List α) (j:List α):bS (iN D k) j=if j=k then 0 else bS D j:=by
  induction D with
  | nil=>simp [iN,bS]
  | cons p D ih=>
    unfold iN at ih ⊢
    rw [List.filter_cons]
    by_cases e:p.1=k
    · rw [if_neg (by simp [e]),ih]
      by_cases ej:j=k
      · rw [if_pos ej,if_pos ej]
      · rw [if_neg ej,if_neg ej,bS,if_neg (fun z=>ej (z.symm.trans e))]
    · rw [if_pos (by simp [e]),bS,ih]
      by_cases ej:j=k
      · rw [if_neg (fun z=>e (z.trans ej)),if_pos ej,if_pos ej]
      · rw [if_neg ej,if_neg ej];rfl
end
end NH
namespace NhLS
set_option autoImplicit false
open PySem PyProof.Rows
def v_:Bool→Keyed→Array Keyed→Nat→Nat→Nat→StateT SortSt Sem (Option Nat):=sortPriv% PySem.Builtin.gallop
def uK:Array Keyed→Array Keyed→StateT SortSt Sem (Array Keyed):=sortPriv% PySem.Builtin.mergeLo
def uL:Array Keyed→Array Keyed→StateT SortSt Sem (Array Keyed):=sortPriv% PySem.Builtin.mergeHi
def wa:Keyed:=(Value.none,Value.none)
def at' (a:Array Keyed) (i:Nat):Keyed:=a.getD i wa
theorem zT {a:Array Keyed} {i:Nat} (h:i < a.size):a[i]? =some (at' a i):=by simp [at',Array.getD,h]
structure Cmp (prog:Program) (w:World) (A:Around) (s:Shared) (κ:SortKind) (O:KeyOrd) (key:Keyed→O.α) (dom:Keyed→Prop):Prop where
  ask:∀(E:Value→Shared→Prop) (x y:Keyed) (Q:Bool→Shared→Prop),dom x→dom y→Q (O.blt (key x) (key y)) s→wpAny (model prog w) A (keyLt' κ x.1 y.1) Q E s
section
variable {prog:Program} {w:World} {A:Around} {E:Value→Shared→Prop} {s:Shared} {κ:SortKind} {O:KeyOrd} {key:Keyed→O.α} {dom:Keyed→Prop} {st:SortSt}
theorem uM (C:Cmp prog w A s κ O key dom) {x y:Keyed} {Q:Option Bool→SortSt→Prop} (hk:kindOf st=κ) (dx:dom x) (dy:dom y) (h:Q (some (O.blt (key x) (key y))) st):wpS (model prog w) A E s (lt' x y) Q st:=by
  rw [lt'_eq]
  refine wpS_bind (wpS_get ?_)
  rw [hk]
  refine wpS_bind (wpS_lift (wpAny_attempt (C.ask _ _ _ _ dx dy ⟨rfl,?_⟩)))
  exact wpS_pure h
theorem eV {arr:Array Keyed} {i:Nat} {Q:Keyed→SortSt→Prop} (hi:i < arr.size) (h:Q (at' arr i) st):wpS (model prog w) A E s (elem' arr i) Q st:=by
  rw [elem'_eq,zT hi]
  exact wpS_pure h
def e8 (O:KeyOrd) (key:Keyed→O.α) (left:Bool) (k:Keyed) (arr:Array Keyed) (base i:Nat):Bool:=if left then O.blt (key (at' arr (base+i))) (key k) else !O.blt (key k) (key (at' arr (base+i)))
theorem fA (C:Cmp prog w A s κ O key dom) {left:Bool} {k:Keyed} {arr:Array Keyed} {base n hint:Nat} {Q:Option Nat→SortSt→Prop} (hk:kindOf st=κ) (hh:hint < n) (hb:base+n≤arr.size) (dk:dom k) (da:∀i,i < arr.size→dom (at' arr i))
    (mono:∀i j,i < j→j < n→e8 O key left k arr base j=true→e8 O key left k arr base i=true)
    (h:∀m,m≤n→(∀i,i < m→e8 O key left k arr base i=true)→(∀i,m≤i→i < n→e8 O key left k arr base i=false)→Q (some m) st):wpS (model prog w) A E s (v_ left k arr base n hint) Q st:=by
  have bey:∀{i:Nat} {Q':Option Bool→SortSt→Prop},i < n→Q' (some (e8 O key left k arr base i)) st→wpS (model prog w) A E s (elem' arr (base+i) >>= fun x=>if left=true then lt' x k else (lt' k x >>= fun r=>pure (r.map (!·)))) Q' st:=by
    intro i Q' hi hq
    refine wpS_bind (eV (by lia) ?_)
    have dx:=da (base+i) (by lia)
    cases left with
    | true=>exact uM C hk dx dk hq
    | false=>exact wpS_bind (uM C hk dk dx (wpS_pure hq))
  refine wpS_bind (bey hh ?_)
  have up:∀i j,i≤j→j < n→e8 O key left k arr base j=true→e8 O key left k arr base i=true:=fun i j hij hj e=>by
    by_cases z:i=j
    · rw [z];exact e
    · exact mono i j (by exact Nat.lt_of_le_of_ne ‹_› ‹_›) hj e
  have dn:∀i j,i≤j→j < n→e8 O key left k arr base i=false→e8 O key left k arr base j=false:=fun i j hij hj e=>by
    cases z:e8 O key left k arr base j with
    | false=>rfl
    | true=>rw [up i j hij hj z] at e;cases e
  have fin:∀{body:Nat→Option (Option Nat)×Nat×Nat→StateT SortSt Sem (ForInStep (Option (Option Nat)×Nat×Nat))} {cont:Option (Option Nat)×Nat×Nat→StateT SortSt Sem (Option Nat)},
      (∀lo,Q (some lo) st→wpS (model prog w) A E s (cont (none,lo,lo)) Q st)→
      (∀x lo hi (R:ForInStep (Option (Option Nat)×Nat×Nat)→SortSt→Prop),lo≥hi→R (.done (none,lo,hi)) st→wpS (model prog w) A E s (body x (none,lo,hi)) R st)→
      (∀x lo hi (R:ForInStep (Option (Option Nat)×Nat×Nat)→SortSt→Prop),lo < hi→hi≤n→R (.yield (if e8 O key left k arr base (lo+(hi - lo) / 2)=true then (none,lo+(hi - lo) / 2+1,hi) else (none,lo,lo+(hi - lo) / 2))) st→wpS (model prog w) A E s (body x (none,lo,hi)) R st)→
      ∀lo hi,lo≤hi→hi≤n→(∀i,i < lo→e8 O key left k arr base i=true)→(∀i,hi≤i→i < n→e8 O key left k arr base i=false)→
      wpS (model prog w) A E s (forIn [0:n] (none,lo,hi) body >>= cont) Q st:=by
    intro body cont b3 b1 b2 lo hi f1 f2 f3 f4
    refine wpS_bind (wpS_mono (wpS_forRange (I:=fun x c st'=>st'=st∧∃lo hi,c=(none,lo,hi)∧lo≤hi∧hi≤n∧hi+x≤n+lo∧(∀i,i < lo→e8 O key left k arr base i=true)∧(∀i,hi≤i→i < n→e8 O key left k arr base i=false))
      (Q:=fun c st'=>st'=st∧∃lo,c=(none,lo,lo)∧lo≤n∧(∀i,i < lo→e8 O key left k arr base i=true)∧(∀i,lo≤i→i < n→e8 O key left k arr base i=false)) ?s1 ?s2 ⟨rfl,lo,hi,rfl,f1,f2,by exact Nat.le_add_right_of_le ‹_›,f3,f4⟩) ?s3)
    case s2=>
      rintro c st' ⟨rfl,l,o,rfl,h1,h2,h3,h4,h5⟩
      have:l=o:=by lia
      subst this
      exact ⟨rfl,l,rfl,h2,h4,h5⟩
    case s3=>
      rintro c st' ⟨rfl,l,rfl,h2,h4,h5⟩
      exact b3 l (h l h2 h4 h5)
    case s1=>
      rintro x c st' - hx ⟨rfl,l,o,rfl,h1,h2,h3,h4,h5⟩
      by_cases z:l≥o
      · have:l=o:=by exact Nat.le_antisymm ‹_› ‹_›
        subst this
        exact b1 x l l _ z ⟨rfl,l,rfl,h2,h4,h5⟩
      · refine b2 x l o _ (by exact Nat.lt_of_not_le ‹_›) h2 ?_
        cases e:e8 O key left k arr base (l+(o - l) / 2) with
        | true=>exact ⟨rfl,_,_,rfl,by lia,by assumption,by lia,fun i hi=>up i _ (by exact Nat.le_of_lt_succ ‹_›) (by lia) e,h5⟩
        | false=>exact ⟨rfl,_,_,rfl,by exact Nat.le_add_right _ _,by lia,by lia,h4,fun i hi hn=>dn _ i hi hn e⟩
  cases eh:e8 O key left k arr base hint with
  | true=>
    dsimp only
    rw [if_pos rfl]
    refine wpS_bind (wpS_mono (wpS_forRange (I:=fun x c st'=>st'=st∧∃l o,c=(none,l,o)∧l < o∧x < o∧hint+l < n∧e8 O key left k arr base (hint+l)=true)
      (Q:=fun c st'=>st'=st∧∃l o,c=(none,l,o)∧l < o∧hint+l < n∧e8 O key left k arr base (hint+l)=true∧(n - hint≤o∨e8 O key left k arr base (hint+o)=false)) ?s1 ?s2 ⟨rfl,0,1,rfl,by exact Nat.lt_succ_self _,by exact Nat.lt_succ_self _,by assumption,eh⟩) ?s3)
    case s2=>
      rintro c st' ⟨rfl,l,o,rfl,h1,h2,h3,h4⟩
      exact ⟨rfl,l,o,rfl,h1,h3,h4, .inl (by lia)⟩
    case s1=>
      rintro x c st' - hx ⟨rfl,l,o,rfl,h1,h2,h3,h4⟩
      dsimp only
      by_cases z:o≥n - hint
      · rw [if_pos z]
        exact wpS_pure ⟨rfl,l,o,rfl,h1,h3,h4, .inl z⟩
      · rw [if_neg z]
        refine wpS_bind (bey (by lia) ?_)
        cases e:e8 O key left k arr base (hint+o) with
        | true=>exact wpS_pure ⟨rfl,o,2*o+1,rfl,by lia,by lia,by lia,e⟩
        | false=>exact wpS_pure ⟨rfl,l,o,rfl,h1,h3,h4, .inr e⟩
    case s3=>
      rintro c st' ⟨rfl,l,o,rfl,h1,h3,h4,h5⟩
      dsimp only
      have f1:hint+l+1≤hint+min o (n - hint):=by lia
      have f2:hint+min o (n - hint)≤n:=by lia
      have f3:∀i,i < hint+l+1→e8 O key left k arr base i=true:=fun i hi=>up i _ (by exact Nat.le_of_lt_succ ‹_›) h3 h4
      have f4:∀i,hint+min o (n - hint)≤i→i < n→e8 O key left k arr base i=false:=fun i hi hn=>by
        rcases h5 with h5 | h5
        · lia
        · exact dn (hint+o) i (by lia) hn h5
      revert f1 f2 f3 f4
      generalize hint+l+1=lo
      generalize hint+min o (n - hint)=hi
      refine fin (fun lo hq=>wpS_pure hq) (fun x lo hi R hz hR=>?_) (fun x lo hi R hz hn hR=>?_) lo hi
      · dsimp only
        rw [if_pos hz]
        exact wpS_pure hR
      · dsimp only
        rw [if_neg (by exact Nat.not_le.mpr ‹_›)]
        refine wpS_bind (bey (by lia) ?_)
        cases e:e8 O key left k arr base (lo+(hi - lo) / 2) with
        | true=>rw [e] at hR;exact wpS_pure hR
        | false=>rw [e] at hR;exact wpS_pure hR
  | false=>
    dsimp only
    rw [if_neg (by simp)]
    refine wpS_bind (wpS_mono (wpS_forRange (I:=fun x c st'=>st'=st∧∃l o,c=(none,l,o)∧l < o∧x < o∧l≤hint∧e8 O key left k arr base (hint - l)=false)
      (Q:=fun c st'=>st'=st∧∃l o,c=(none,l,o)∧l < o∧l≤hint∧e8 O key left k arr base (hint - l)=false∧(hint+1≤o∨e8 O key left k arr base (hint - o)=true)) ?s1 ?s2 ⟨rfl,0,1,rfl,by exact Nat.lt_succ_self _,by exact Nat.lt_succ_self _,by exact Nat.zero_le _,eh⟩) ?s3)
    case s2=>
      rintro c st' ⟨rfl,l,o,rfl,h1,h2,h3,h4⟩
      exact ⟨rfl,l,o,rfl,h1,h3,h4, .inl (by lia)⟩
    case s1=>
      rintro x c st' - hx ⟨rfl,l,o,rfl,h1,h2,h3,h4⟩
      dsimp only
      by_cases z:o≥hint+1
      · rw [if_pos z]
        exact wpS_pure ⟨rfl,l,o,rfl,h1,h3,h4, .inl z⟩
      · rw [if_neg z]
        refine wpS_bind (bey (by exact Nat.lt_of_le_of_lt (Nat.sub_le _ _) ‹_›) ?_)
        cases e:e8 O key left k arr base (hint - o) with
        | false=>exact wpS_pure ⟨rfl,o,2*o+1,rfl,by lia,by lia,by exact Nat.le_of_not_lt ‹_›,e⟩
        | true=>exact wpS_pure ⟨rfl,l,o,rfl,h1,h3,h4, .inr e⟩
    case s3=>
      rintro c st' ⟨rfl,l,o,rfl,h1,h3,h4,h5⟩
      dsimp only
      have f1:hint+1 - min o (hint+1)≤hint - l:=by omega
      have f2:hint - l≤n:=by lia
      have f3:∀i,i < hint+1 - min o (hint+1)→e8 O key left k arr base i=true:=fun i hi=>by
        rcases h5 with h5 | h5
        · lia
        · exact up i (hint - o) (by lia) (by exact Nat.lt_of_le_of_lt (Nat.sub_le _ _) ‹_›) h5
      have f4:∀i,hint - l≤i→i < n→e8 O key left k arr base i=false:=fun i hi hn=>dn _ i hi hn h4
      revert f1 f2 f3 f4
      generalize hint+1 - min o (hint+1)=lo
      generalize hint - l=hi
      refine fin (fun lo hq=>wpS_pure hq) (fun x lo hi R hz hR=>?_) (fun x lo hi R hz hn hR=>?_) lo hi
      · dsimp only
        rw [if_pos hz]
        exact wpS_pure hR
      · dsimp only
        rw [if_neg (by exact Nat.not_le.mpr ‹_›)]
        refine wpS_bind (bey (by lia) ?_)
        cases e:e8 O key left k arr base (lo+(hi - lo) / 2) with
        | true=>rw [e] at hR;exact wpS_pure hR
        | false=>rw [e] at hR;exact wpS_pure hR
end
end NhLS
namespace NhLS
set_option autoImplicit false
open PySem PyProof.Rows
def Le (O:KeyOrd) (key:Keyed→O.α) (x y:Keyed):Prop:=O.blt (key y) (key x)=false
structure G (le:Keyed→Keyed→Prop) (T out ra rb:List Keyed):Prop where
  perm:(out++(ra++rb)).Perm T
  pa:(out++ra).Pairwise le
  pb:(out++rb).Pairwise le
def fm (le:Keyed→Keyed→Prop) (T l:List Keyed):Prop:=l.Perm T∧l.Pairwise le
section
variable {le:Keyed→Keyed→Prop} {T out ra rb p:List Keyed}
theorem G.takeA (g:G le T out (p++ra) rb) (h:∀x∈p,∀y∈rb,le x y):G le T (out++p) ra rb where
  perm:=by have:=g.perm;simpa [List.append_assoc] using this
  pa:=by have:=g.pa;simpa [List.append_assoc] using this
  pb:=by
    have h1:=g.pa
    have h2:=g.pb
    simp only [List.pairwise_append,List.mem_append] at h1 h2 ⊢
    refine ⟨⟨h1.1,h1.2.1.1,fun x hx y hy=>h1.2.2 x hx y (.inl hy)⟩,h2.2.1,fun x hx y hy=>?_⟩
    rcases hx with hx | hx
    · exact h2.2.2 x hx y hy
    · exact h x hx y hy
theorem G.takeB (g:G le T out ra (p++rb)) (h:∀x∈p,∀y∈ra,le x y):G le T (out++p) ra rb where
  perm:=by
    refine List.Perm.trans ?_ g.perm
    rw [List.append_assoc]
    refine List.Perm.append_left _ ?_
    rw [←List.append_assoc,←List.append_assoc]
    exact List.Perm.append_right _ List.perm_append_comm
  pb:=by have:=g.pb;simpa [List.append_assoc] using this
  pa:=by
    have h1:=g.pa
    have h2:=g.pb
    simp only [List.pairwise_append,List.mem_append] at h1 h2 ⊢
    refine ⟨⟨h2.1,h2.2.1.1,fun x hx y hy=>h2.2.2 x hx y (.inl hy)⟩,h1.2.1,fun x hx y hy=>?_⟩
    rcases hx with hx | hx
    · exact h1.2.2 x hx y hy
    · exact h x hx y hy
theorem G.endA (g:G le T out ra []):fm le T (out++ra):=⟨by have:=g.perm;simpa using this,g.pa⟩
theorem G.endB (g:G le T out [] rb):fm le T (out++rb):=⟨by have:=g.perm;simpa using this,g.pb⟩
end
section
variable {O:KeyOrd} {key:Keyed→O.α} {a b:Array Keyed} {T:List Keyed} {out:Array Keyed} {i j ia ib k:Nat} {x y z:Keyed}
theorem Le.refl (x:Keyed):Le O key x x:=O.irrefl _
theorem Le.trans (h1:Le O key x y) (h2:Le O key y z):Le O key x z:=KeyOrd.kle_trans (O:=O) (a:=key x) (b:=key y) (c:=key z) h1 h2
theorem Le.of (h:O.blt (key x) (key y)=true):Le O key x y:=KeyOrd.klt_asymm (O:=O) h
theorem f7 (h:i < a.toList.length):a.toList[i]=at' a i:=by
  have h':i < a.size:=by simpa using h
  simp [at',Array.getD,h']
theorem ml (h:y∈a.toList.drop i):∃j,i≤j∧j < a.size∧y=at' a j:=by
  obtain ⟨j,hj,e⟩:=List.mem_iff_getElem.mp h
  rw [List.length_drop,Array.length_toList] at hj
  refine ⟨i+j,by exact Nat.le_add_right _ _,by exact Nat.add_lt_of_lt_sub' ‹_›,?_⟩
  rw [List.getElem_drop] at e
  rw [←e,f7]
theorem g8 (h:i < a.size):at' a i∈a.toList:=by
  rw [←f7 (by simpa using h)]
  exact List.getElem_mem _
theorem k7 (pa:a.toList.Pairwise (Le O key)) (h:i≤j) (hj:j < a.size):Le O key (at' a i) (at' a j):=by
  by_cases e:i=j
  · rw [e];exact Le.refl _
  · have:=List.pairwise_iff_getElem.mp pa i j (by simp;exact Nat.lt_of_le_of_lt ‹_› ‹_›) (by simpa using hj) (by exact Nat.lt_of_le_of_ne ‹_› ‹_›)
    rw [f7,f7] at this
    exact this
theorem nN (pa:a.toList.Pairwise (Le O key)) (h:y∈a.toList.drop i):Le O key (at' a i) y:=by
  obtain ⟨j,h1,h2,rfl⟩:=ml h
  exact k7 pa h1 h2
theorem qD (h:i < a.size):a.toList.drop i=[at' a i]++a.toList.drop (i+1):=by
  rw [List.drop_eq_getElem_cons (by simpa using h),f7]
  rfl
theorem qE (k:Nat):a.toList.drop i=(a.extract i (i+k)).toList++a.toList.drop (i+k):=by
  rw [Array.toList_extract,List.extract_eq_take_drop,Nat.add_sub_cancel_left,←List.drop_drop,List.take_append_drop]
theorem iO:(a.extract i).toList=a.toList.drop i:=by
  rw [Array.toList_extract,List.extract_eq_take_drop]
  exact List.take_of_length_le (by simp)
theorem mn (h:a.size≤i):a.toList.drop i=[]:=List.drop_eq_nil_of_le (by simpa using h)
theorem uN (h:x∈(a.extract i (i+k)).toList):∃j,j < k∧i+j < a.size∧x=at' a (i+j):=by
  rw [Array.toList_extract,List.extract_eq_take_drop,Nat.add_sub_cancel_left] at h
  obtain ⟨j,hj,e⟩:=List.mem_iff_getElem.mp h
  rw [List.length_take,List.length_drop,Array.length_toList] at hj
  refine ⟨j,by lia,by lia,?_⟩
  rw [List.getElem_take,List.getElem_drop] at e
  rw [←e,f7]
theorem G.pushA (g:G (Le O key) T out.toList (a.toList.drop ia) (b.toList.drop ib)) (h:ia < a.size) (hl:∀y∈b.toList.drop ib,Le O key (at' a ia) y):G (Le O key) T (out.push (at' a ia)).toList (a.toList.drop (ia+1)) (b.toList.drop ib):=by
  rw [qD h] at g
  rw [Array.toList_push]
  exact g.takeA fun x hx y hy=>by rw [List.mem_singleton.mp hx];exact hl y hy
theorem G.pushB (g:G (Le O key) T out.toList (a.toList.drop ia) (b.toList.drop ib)) (h:ib < b.size) (hl:∀y∈a.toList.drop ia,Le O key (at' b ib) y):G (Le O key) T (out.push (at' b ib)).toList (a.toList.drop ia) (b.toList.drop (ib+1)):=by
  rw [qD h] at g
  rw [Array.toList_push]
  exact g.takeB fun x hx y hy=>by rw [List.mem_singleton.mp hx];exact hl y hy
theorem G.blkA (g:G (Le O key) T out.toList (a.toList.drop ia) (b.toList.drop ib)) (k:Nat) (hl:∀j,j < k→ia+j < a.size→∀y∈b.toList.drop ib,Le O key (at' a (ia+j)) y):G (Le O key) T (out++a.extract ia (ia+k)).toList (a.toList.drop (ia+k)) (b.toList.drop ib):=by
  rw [qE k] at g
  rw [Array.toList_append]
  exact g.takeA fun x hx y hy=>by obtain ⟨j,h1,h2,rfl⟩:=uN hx;exact hl j h1 h2 y hy
theorem G.blkB (g:G (Le O key) T out.toList (a.toList.drop ia) (b.toList.drop ib)) (k:Nat) (hl:∀j,j < k→ib+j < b.size→∀y∈a.toList.drop ia,Le O key (at' b (ib+j)) y):G (Le O key) T (out++b.extract ib (ib+k)).toList (a.toList.drop ia) (b.toList.drop (ib+k)):=by
  rw [qE (a:=b) k] at g
  rw [Array.toList_append]
  exact g.takeB fun x hx y hy=>by obtain ⟨j,h1,h2,rfl⟩:=uN hx;exact hl j h1 h2 y hy
theorem G.doneB (g:G (Le O key) T out.toList (a.toList.drop ia) (b.toList.drop ib)) (h:b.size≤ib):fm (Le O key) T (out++a.extract ia++b.extract ib).toList:=by
  rw [Array.toList_append,Array.toList_append,iO,iO,mn h,List.append_nil]
  rw [mn h] at g
  exact g.endA
theorem G.doneA (g:G (Le O key) T out.toList (a.toList.drop ia) (b.toList.drop ib)) (h:a.size≤ia):fm (Le O key) T (out++a.extract ia++b.extract ib).toList:=by
  rw [Array.toList_append,Array.toList_append,iO,iO,mn h,List.append_nil]
  rw [mn h] at g
  exact g.endB
theorem G.lastA (g:G (Le O key) T out.toList (a.toList.drop ia) (b.toList.drop ib)) (h:ia+1=a.size) (h1:∀y∈b.toList,Le O key y (at' a (a.size - 1))):fm (Le O key) T (out++b.extract ib++a.extract ia).toList:=by
  rw [Array.toList_append,Array.toList_append,iO,iO]
  have g':G (Le O key) T out.toList (a.toList.drop ia) (b.toList.drop ib++[]):=by rw [List.append_nil];exact g
  refine (g'.takeB fun x hx y hy=>?_).endA
  obtain ⟨j,q1,q2,rfl⟩:=ml hy
  rw [show j=a.size - 1 by lia]
  exact h1 x (List.mem_of_mem_drop hx)
end
def SS (st st':SortSt):Prop:=∃g,st'=SortSt.mk' (kindOf st) (arrOf st) (pendingOf st) g (failedOf st)
theorem SS.refl (st:SortSt):SS st st:=⟨gallopOf st,rfl⟩
theorem SS.kind {st st':SortSt} (h:SS st st'):kindOf st'=kindOf st:=by obtain ⟨g,rfl⟩:=h;rfl
section
variable {prog:Program} {w:World} {A:Around} {E:Value→Shared→Prop} {s:Shared} {κ:SortKind} {O:KeyOrd} {key:Keyed→O.α} {dom:Keyed→Prop} {st:SortSt}
def zU:Nat→StateT SortSt Sem Unit:=sortPriv% PySem.Builtin.setMinGallop
theorem mo {st':SortSt} {g:Nat} {Q:Unit→SortSt→Prop} (hs:SS st st') (h:∀st2,SS st st2→Q () st2):wpS (model prog w) A E s (zU g) Q st':=
  wpS_modify (h _ (by obtain ⟨g',rfl⟩:=hs;exact ⟨g,rfl⟩))
theorem aN {α:Type} {c:Prop} [Decidable c] {x y:StateT SortSt Sem α} {Q:α→SortSt→Prop} (hc:c) (h:wpS (model prog w) A E s x Q st):wpS (model prog w) A E s (if c then x else y) Q st:=by rw [if_pos hc];exact h
theorem aM {α:Type} {c:Prop} [Decidable c] {x y:StateT SortSt Sem α} {Q:α→SortSt→Prop} (hc:¬c) (h:wpS (model prog w) A E s y Q st):wpS (model prog w) A E s (if c then x else y) Q st:=by rw [if_neg hc];exact h
theorem yw {α:Type} {m:StateT SortSt Sem α} {Q:α→SortSt→Prop} (h:∀R,R=Q→wpS (model prog w) A E s m R st):wpS (model prog w) A E s m Q st:=h Q rfl
theorem zV {α:Type} {c:Prop} [Decidable c] (f:Nat→StateT SortSt Sem α) {x y:Nat} {Q:α→SortSt→Prop} (h:∀m,wpS (model prog w) A E s (f m) Q st):wpS (model prog w) A E s (if c then f x else f y) Q st:=by
  split <;> exact h _
theorem sm (C:Cmp prog w A s κ O key dom) {a b:Array Keyed} {Q:Array Keyed→SortSt→Prop} (hk:kindOf st=κ) (da:∀x∈a.toList,dom x) (db:∀x∈b.toList,dom x) (ha:0 < a.size) (hb:0 < b.size)
    (pa:a.toList.Pairwise (Le O key)) (pb:b.toList.Pairwise (Le O key)) (h0:O.blt (key (at' b 0)) (key (at' a 0))=true) (h1:∀y∈b.toList,Le O key y (at' a (a.size - 1)))
    (h:∀r st',SS st st'→fm (Le O key) (a.toList++b.toList) r.toList→Q r st'):wpS (model prog w) A E s (uK a b) Q st:=by
  refine wpS_bind (wpS_lift (wpAny_rule ⟨rfl,?_⟩))
  refine wpS_bind (eV hb ?_)
  obtain ⟨T,hT⟩:∃T,T=a.toList++b.toList:=⟨_,rfl⟩
  rw [←hT] at h
  have g0:G (Le O key) T (#[at' b 0]:Array Keyed).toList (a.toList.drop 0) (b.toList.drop 1):=by
    have q:G (Le O key) T (#[]:Array Keyed).toList (a.toList.drop 0) (b.toList.drop 0):=⟨by simp [hT],by simpa using pa,by simpa using pb⟩
    exact q.pushB hb fun y hy=>(Le.of h0).trans (nN pa hy)
  have dA:∀i,i < a.size→dom (at' a i):=fun i hi=>da _ (g8 hi)
  have dB:∀i,i < b.size→dom (at' b i):=fun i hi=>db _ (g8 hi)
  extract_lets o0 i0 i1
  by_cases e1:(1 == b.size)=true
  · refine aN e1 ?_
    exact wpS_pure (h _ st (SS.refl _) (g0.doneB (by simp at e1;exact Nat.le_of_eq (Eq.symm ‹_›))))
  refine aM e1 ?_
  by_cases e2:(0+1 == a.size)=true
  · refine aN e2 ?_
    exact wpS_pure (h _ st (SS.refl _) (g0.lastA (by simpa using e2) h1))
  refine aM e2 ?_
  refine wpS_bind (wpS_get ?_)
  refine wpS_bind (wpS_mono (wpS_forRange (I:=fun x c st'=>SS st st'∧∃out ia ib mg,c=(none,out,ia,ib,mg)∧ia+1 < a.size∧ib < b.size∧x < ia+ib∧G (Le O key) T out.toList (a.toList.drop ia) (b.toList.drop ib))
    (Q:=fun c st'=>SS st st'∧∃r o,c=(some r,o)∧fm (Le O key) T r.toList) ?s1 ?s2 ⟨SS.refl _,_,0,1,_,rfl,by simp at e2;exact Nat.lt_of_le_of_ne ‹_› ‹_›,by simp at e1;exact Nat.lt_of_le_of_ne ‹_› ‹_›,by exact Nat.lt_succ_self _,g0⟩) ?s3)
  case s3=>
    rintro c st' ⟨hs,r,o,rfl,hg⟩
    exact wpS_pure (h r st' hs hg)
  case s2=>
    rintro c st' ⟨hs,out,ia,ib,mg,rfl,q1,q2,q3,g⟩
    lia
  case s1=>
    rintro x c st1 - hx ⟨hs,out,ia,ib,mg,rfl,q1,q2,q3,g⟩
    refine wpS_bind (wpS_mono (wpS_forRange (I:=fun y c st'=>SS st st'∧∃out ia ib ac bc,c=(none,out,ia,ib,ac,bc)∧ia+1 < a.size∧ib < b.size∧x < ia+ib∧(y=0∨x+1 < ia+ib)∧G (Le O key) T out.toList (a.toList.drop ia) (b.toList.drop ib))
      (Q:=fun c st'=>SS st st'∧((∃r o,c=(some r,o)∧fm (Le O key) T r.toList)∨∃out ia ib ac bc,c=(none,out,ia,ib,ac,bc)∧ia+1 < a.size∧ib < b.size∧x+1 < ia+ib∧G (Le O key) T out.toList (a.toList.drop ia) (b.toList.drop ib))) ?t1 ?t2 ⟨hs,out,ia,ib,0,0,rfl,q1,q2,q3, .inl rfl,g⟩) ?t3)
    case t2=>
      rintro c st' ⟨hs,out,ia,ib,ac,bc,rfl,q1,q2,q3,q4,g⟩
      exact ⟨hs, .inr ⟨out,ia,ib,ac,bc,rfl,q1,q2,by lia,g⟩⟩
    case t1=>
      rintro y c st2 - hy ⟨hs,out,ia,ib,ac,bc,rfl,q1,q2,q3,q4,g⟩
      have q0:ia < a.size:=by exact Nat.lt_of_succ_lt ‹_›
      refine wpS_bind (eV q2 ?_)
      refine wpS_bind (eV q0 ?_)
      refine wpS_bind (uM C (hs.kind.trans hk) (dB _ q2) (dA _ q0) ?_)
      cases e:O.blt (key (at' b ib)) (key (at' a ia)) with
      | true=>
        refine wpS_bind (eV q2 ?_)
        have g':=g.pushB q2 (fun y hy=>(Le.of e).trans (nN pa hy))
        by_cases z:(ib+1 == b.size)=true
        · exact aN z (wpS_pure ⟨hs, .inl ⟨_,_,rfl,g'.doneB (by simp at z;exact Nat.le_of_eq (Eq.symm ‹_›))⟩⟩)
        · refine aM z ?_
          have z':ib+1 < b.size:=by simp at z;exact Nat.lt_of_le_of_ne ‹_› ‹_›
          dsimp only
          split
          · exact wpS_pure ⟨hs, .inr ⟨_,_,_,_,_,rfl,q1,z',by exact Nat.succ_lt_succ ‹_›,g'⟩⟩
          · exact wpS_pure ⟨hs,_,_,_,_,_,rfl,q1,z',by exact Nat.lt_succ_of_lt ‹_›, .inr (by exact Nat.succ_lt_succ ‹_›),g'⟩
      | false=>
        refine wpS_bind (eV q0 ?_)
        have g':=g.pushA (by assumption) (fun y hy=>Le.trans e (nN pb hy))
        by_cases z:(ia+1+1 == a.size)=true
        · exact aN z (wpS_pure ⟨hs, .inl ⟨_,_,rfl,g'.lastA (by simpa using z) h1⟩⟩)
        · refine aM z ?_
          have z':ia+1+1 < a.size:=by simp at z;exact Nat.lt_of_le_of_ne ‹_› ‹_›
          dsimp only
          split
          · exact wpS_pure ⟨hs, .inr ⟨_,_,_,_,_,rfl,z',q2,by lia,g'⟩⟩
          · exact wpS_pure ⟨hs,_,_,_,_,_,rfl,z',q2,by lia, .inr (by lia),g'⟩
    case t3=>
      rintro c st2 ⟨hs,⟨r,o,rfl,hg⟩ | ⟨out,ia,ib,ac,bc,rfl,q1,q2,q3,g⟩⟩
      · exact wpS_pure ⟨hs,r,_,rfl,hg⟩
      · refine wpS_bind (wpS_lift (wpAny_rule ⟨rfl,?_⟩))
        refine wpS_bind (wpS_mono (wpS_forRange (I:=fun y c st'=>SS st st'∧∃out ia ib mg ac bc,c=(none,out,ia,ib,mg,ac,bc)∧ia+1 < a.size∧ib < b.size∧x+1 < ia+ib∧G (Le O key) T out.toList (a.toList.drop ia) (b.toList.drop ib))
          (Q:=fun c st'=>SS st st'∧((∃r o,c=(some r,o)∧fm (Le O key) T r.toList)∨∃out ia ib mg ac bc,c=(none,out,ia,ib,mg,ac,bc)∧ia+1 < a.size∧ib < b.size∧x+1 < ia+ib∧G (Le O key) T out.toList (a.toList.drop ia) (b.toList.drop ib))) ?u1 ?u2 ⟨hs,out,ia,ib,_,ac,bc,rfl,q1,q2,q3,g⟩) ?u3)
        case u2=>
          rintro c st' ⟨hs,out,ia,ib,mg,ac,bc,rfl,q1,q2,q3,g⟩
          exact ⟨hs, .inr ⟨out,ia,ib,mg,ac,bc,rfl,q1,q2,by assumption,g⟩⟩
        case u3=>
          rintro c st3 ⟨hs,⟨r,o,rfl,hg⟩ | ⟨out,ia,ib,mg,ac,bc,rfl,q1,q2,q3,g⟩⟩
          · exact wpS_pure ⟨hs,r,_,rfl,hg⟩
          · exact wpS_bind (mo hs fun st4 h4=>wpS_pure ⟨h4,out,ia,ib,_,rfl,q1,q2,q3,g⟩)
        case u1=>
          rintro y c st3 - hy ⟨hs,out,ia,ib,mg,ac,bc,rfl,q1,q2,q3,g⟩
          refine yw fun R hR=>?_
          have Rd:∀r o st',SS st st'→fm (Le O key) T r.toList→R (.done (some r,o)) st':=fun r o st' a1 a2=>by rw [hR];exact ⟨a1, .inl ⟨r,o,rfl,a2⟩⟩
          have Rn:∀out ia ib mg ac bc st',SS st st'→ia+1 < a.size→ib < b.size→x+1 < ia+ib→G (Le O key) T out.toList (a.toList.drop ia) (b.toList.drop ib)→R (.done (none,out,ia,ib,mg,ac,bc)) st':=
            fun out ia ib mg ac bc st' a1 a2 a3 a4 a5=>by rw [hR];exact ⟨a1, .inr ⟨_,_,_,_,_,_,rfl,a2,a3,a4,a5⟩⟩
          have Ry:∀out ia ib mg ac bc st',SS st st'→ia+1 < a.size→ib < b.size→x+1 < ia+ib→G (Le O key) T out.toList (a.toList.drop ia) (b.toList.drop ib)→R (.yield (none,out,ia,ib,mg,ac,bc)) st':=
            fun out ia ib mg ac bc st' a1 a2 a3 a4 a5=>by rw [hR];exact ⟨a1,_,_,_,_,_,_,rfl,a2,a3,a4,a5⟩
          clear hR
          extract_lets
          rename Unit→Nat→_=>jp
          refine zV (jp ()) fun mg'=>?_
          refine wpS_bind (mo hs fun st4 h4=>?_)
          refine wpS_bind (eV q2 ?_)
          refine wpS_bind (fA C (base:=ia) (n:=a.size - ia) (hint:=0) (h4.kind.trans hk) (by exact Nat.sub_pos_of_lt (Nat.lt_of_succ_lt ‹_›)) (by exact Nat.le_of_eq (Nat.add_sub_of_le (Nat.le_of_lt (Nat.lt_of_succ_lt ‹_›)))) (dB _ q2) dA ?m1 fun k hk1 hk2 hk3=>?_)
          case m1=>
            intro i j hij hj e
            simp only [e8,Bool.false_eq_true,if_false,Bool.not_eq_true'] at e ⊢
            exact (k7 pa (by lia) (by exact Nat.add_lt_of_lt_sub' ‹_›):Le O key (at' a (ia+i)) (at' a (ia+j))).trans e
          simp only [e8,Bool.false_eq_true,if_false,Bool.not_eq_true',Bool.not_eq_false'] at hk2 hk3
          dsimp -zeta only
          extract_lets
          rename Unit→Array Keyed→Nat→_=>jp1
          have J1:∀(out:Array Keyed) (ia:Nat),ia+1 < a.size→x+1 < ia+ib→G (Le O key) T out.toList (a.toList.drop ia) (b.toList.drop ib)→(∀y∈a.toList.drop ia,Le O key (at' b ib) y)→wpS (model prog w) A E s (jp1 () out ia) R st4:=by
            intro out ia q1 q3 g hl
            have q0:ia < a.size:=by exact Nat.lt_of_succ_lt ‹_›
            refine wpS_bind (eV q2 ?_)
            have g':=g.pushB q2 hl
            by_cases z:(ib+1 == b.size)=true
            · exact aN z (wpS_pure (Rd _ _ _ h4 (g'.doneB (by simp at z;exact Nat.le_of_eq (Eq.symm ‹_›)))))
            refine aM z ?_
            have z':ib+1 < b.size:=by simp at z;exact Nat.lt_of_le_of_ne ‹_› ‹_›
            refine wpS_bind (eV q0 ?_)
            refine wpS_bind (fA C (base:=ib+1) (n:=b.size - (ib+1)) (hint:=0) (h4.kind.trans hk) (by exact Nat.sub_pos_of_lt ‹_›) (by exact Nat.le_of_eq (Nat.add_sub_of_le ‹_›)) (dA _ q0) dB ?m2 fun k' hk1' hk2' hk3'=>?_)
            case m2=>
              intro i j hij hj e
              simp only [e8,if_true] at e ⊢
              exact KeyOrd.klt_of_kle_of_klt (O:=O) (k7 pb (by lia) (by exact Nat.add_lt_of_lt_sub' ‹_›):Le O key (at' b (ib+1+i)) (at' b (ib+1+j))) e
            simp only [e8,if_true] at hk2' hk3'
            dsimp -zeta only
            extract_lets
            rename Unit→Array Keyed→Nat→_=>jp2
            have J2:∀(out:Array Keyed) (ib':Nat),ib' < b.size→x+1 < ia+ib'→G (Le O key) T out.toList (a.toList.drop ia) (b.toList.drop ib')→(∀y∈b.toList.drop ib',Le O key (at' a ia) y)→wpS (model prog w) A E s (jp2 () out ib') R st4:=by
              intro out ib' p2 p3 g hl
              refine wpS_bind (eV q0 ?_)
              have g':=g.pushA q0 hl
              by_cases z:(ia+1+1 == a.size)=true
              · exact aN z (wpS_pure (Rd _ _ _ h4 (g'.lastA (by simpa using z) h1)))
              refine aM z ?_
              have z':ia+1+1 < a.size:=by simp at z;exact Nat.lt_of_le_of_ne ‹_› ‹_›
              by_cases z2:(decide (k < 7)&&decide (k' < 7))=true
              · exact aN z2 (wpS_pure (Rn _ _ _ _ _ _ _ h4 z' p2 (by lia) g'))
              · exact aM z2 (wpS_pure (Ry _ _ _ _ _ _ _ h4 z' p2 (by lia) g'))
            clear_value jp2
            have tl:∀y∈b.toList.drop (ib+1+k'),Le O key (at' a ia) y:=fun y hy=>by
              obtain ⟨j,r1,r2,rfl⟩:=ml hy
              have:=hk3' (j - (ib+1)) (by exact Nat.le_sub_of_add_le' ‹_›) (by exact Nat.sub_lt_sub_right (Nat.le_trans (Nat.le_add_right _ _) ‹_›) ‹_›)
              rwa [show ib+1+(j - (ib+1))=j by exact Nat.add_sub_of_le (Nat.le_trans (Nat.le_add_right _ _) ‹_›)] at this
            by_cases z2:k' > 0
            · refine aN z2 ?_
              have g2:=g'.blkB k' fun j j1 j2 y hy=>(Le.of (hk2' j j1)).trans (nN pa hy)
              by_cases z3:(ib+1+k' == b.size)=true
              · exact aN z3 (wpS_pure (Rd _ _ _ h4 (g2.doneB (by simp at z3;exact Nat.le_of_eq (Eq.symm ‹_›)))))
              · exact aM z3 (J2 _ (ib+1+k') (by simp at z3;lia) (by lia) g2 tl)
            · have k0:k'=0:=by exact Nat.eq_zero_of_not_pos ‹_›
              subst k0
              exact aM z2 (J2 _ (ib+1) z' (by exact Nat.lt_succ_of_lt ‹_›) g' tl)
          clear_value jp1
          have tl:∀y∈a.toList.drop (ia+k),Le O key (at' b ib) y:=fun y hy=>by
            obtain ⟨j,r1,r2,rfl⟩:=ml hy
            have:=hk3 (j - ia) (by exact Nat.le_sub_of_add_le' ‹_›) (by exact Nat.sub_lt_sub_right (Nat.le_trans (Nat.le_add_right _ _) ‹_›) ‹_›)
            rw [show ia+(j - ia)=j by exact Nat.add_sub_of_le (Nat.le_trans (Nat.le_add_right _ _) ‹_›)] at this
            exact Le.of this
          by_cases z2:k > 0
          · refine aN z2 ?_
            have g2:=g.blkA k fun j j1 j2 y hy=>Le.trans (hk2 j j1) (nN pb hy)
            by_cases z3:(ia+k+1 == a.size)=true
            · exact aN z3 (wpS_pure (Rd _ _ _ h4 (g2.lastA (by simpa using z3) h1)))
            refine aM z3 ?_
            by_cases z4:(ia+k == a.size)=true
            · exact aN z4 (wpS_pure (Rd _ _ _ h4 (g2.doneA (by simp at z4;exact Nat.le_of_eq (Eq.symm ‹_›)))))
            · exact aM z4 (J1 _ (ia+k) (by simp at z3 z4;lia) (by lia) g2 tl)
          · have k0:k=0:=by exact Nat.eq_zero_of_not_pos ‹_›
            subst k0
            exact aM z2 (J1 _ ia q1 q3 g tl)
end
end NhLS
namespace NhLS
set_option autoImplicit false
open PySem PyProof.Rows
structure H (le:Keyed→Keyed→Prop) (T ra rb out:List Keyed):Prop where
  perm:(ra++rb++out).Perm T
  pa:(ra++out).Pairwise le
  pb:(rb++out).Pairwise le
section
variable {le:Keyed→Keyed→Prop} {T out ra rb p:List Keyed}
theorem H.takeA (g:H le T (ra++p) rb out) (h:∀x∈p,∀y∈rb,le y x):H le T ra rb (p++out) where
  perm:=by
    refine List.Perm.trans ?_ g.perm
    rw [←List.append_assoc]
    refine List.Perm.append_right _ ?_
    rw [List.append_assoc,List.append_assoc]
    exact List.Perm.append_left _ List.perm_append_comm
  pa:=by have:=g.pa;simpa [List.append_assoc] using this
  pb:=by
    have h1:=g.pa
    have h2:=g.pb
    simp only [List.pairwise_append,List.mem_append] at h1 h2 ⊢
    refine ⟨h2.1,⟨h1.1.2.1,h1.2.1,fun x hx y hy=>h1.2.2 x (.inr hx) y hy⟩,fun x hx y hy=>?_⟩
    rcases hy with hy | hy
    · exact h y hy x hx
    · exact h2.2.2 x hx y hy
theorem H.takeB (g:H le T ra (rb++p) out) (h:∀x∈p,∀y∈ra,le y x):H le T ra rb (p++out) where
  perm:=by have:=g.perm;simpa [List.append_assoc] using this
  pb:=by have:=g.pb;simpa [List.append_assoc] using this
  pa:=by
    have h1:=g.pa
    have h2:=g.pb
    simp only [List.pairwise_append,List.mem_append] at h1 h2 ⊢
    refine ⟨h1.1,⟨h2.1.2.1,h2.2.1,fun x hx y hy=>h2.2.2 x (.inr hx) y hy⟩,fun x hx y hy=>?_⟩
    rcases hy with hy | hy
    · exact h y hy x hx
    · exact h1.2.2 x hx y hy
theorem H.endA (g:H le T ra [] out):fm le T (ra++out):=⟨by have:=g.perm;simpa using this,g.pa⟩
theorem H.endB (g:H le T [] rb out):fm le T (rb++out):=⟨by have:=g.perm;simpa using this,g.pb⟩
end
section
variable {O:KeyOrd} {key:Keyed→O.α} {a b:Array Keyed} {T:List Keyed} {out:Array Keyed} {i j na nb k:Nat} {x y z:Keyed}
theorem mq (h:y∈a.toList.take i):∃j,j < i∧j < a.size∧y=at' a j:=by
  obtain ⟨j,hj,e⟩:=List.mem_iff_getElem.mp h
  rw [List.length_take,Array.length_toList] at hj
  refine ⟨j,by lia,by lia,?_⟩
  rw [List.getElem_take] at e
  rw [←e,f7]
theorem qF (pa:a.toList.Pairwise (Le O key)) (hi:i < a.size) (h:y∈a.toList.take (i+1)):Le O key y (at' a i):=by
  obtain ⟨j,h1,h2,rfl⟩:=mq h
  exact k7 pa (by exact Nat.le_of_lt_succ ‹_›) hi
theorem qG (h:i < a.size):a.toList.take (i+1)=a.toList.take i++[at' a i]:=by
  rw [List.take_succ_eq_append_getElem (by simpa using h),f7]
theorem ms (h:i≤j):a.toList.take j=a.toList.take i++(a.extract i j).toList:=by
  rw [Array.toList_extract,List.extract_eq_take_drop,←List.take_add]
  congr 1
  lia
theorem iP:(a.extract 0 i).toList=a.toList.take i:=by
  rw [Array.toList_extract,List.extract_eq_take_drop]
  rfl
theorem mv (h:x∈(a.extract i j).toList):∃k,i≤k∧k < j∧k < a.size∧x=at' a k:=by
  rw [Array.toList_extract,List.extract_eq_take_drop] at h
  obtain ⟨k,hk,e⟩:=List.mem_iff_getElem.mp h
  rw [List.length_take,List.length_drop,Array.length_toList] at hk
  refine ⟨i+k,by exact Nat.le_add_right _ _,by lia,by lia,?_⟩
  rw [List.getElem_take,List.getElem_drop] at e
  rw [←e,f7]
theorem H.pushA (g:H (Le O key) T (a.toList.take (na+1)) (b.toList.take nb) out.toList.reverse) (h:na < a.size) (hl:∀y∈b.toList.take nb,Le O key y (at' a na)):H (Le O key) T (a.toList.take na) (b.toList.take nb) (out.push (at' a na)).toList.reverse:=by
  rw [qG h] at g
  rw [Array.toList_push,List.reverse_append]
  exact g.takeA fun x hx y hy=>by rw [List.mem_singleton.mp hx];exact hl y hy
theorem H.pushB (g:H (Le O key) T (a.toList.take na) (b.toList.take (nb+1)) out.toList.reverse) (h:nb < b.size) (hl:∀y∈a.toList.take na,Le O key y (at' b nb)):H (Le O key) T (a.toList.take na) (b.toList.take nb) (out.push (at' b nb)).toList.reverse:=by
  rw [qG h] at g
  rw [Array.toList_push,List.reverse_append]
  exact g.takeB fun x hx y hy=>by rw [List.mem_singleton.mp hx];exact hl y hy
theorem H.blkA (g:H (Le O key) T (a.toList.take na) (b.toList.take nb) out.toList.reverse) (h:i≤na) (hl:∀j,i≤j→j < na→j < a.size→∀y∈b.toList.take nb,Le O key y (at' a j)):H (Le O key) T (a.toList.take i) (b.toList.take nb) (out++(a.extract i na).reverse).toList.reverse:=by
  rw [ms h] at g
  rw [Array.toList_append,List.reverse_append,Array.toList_reverse,List.reverse_reverse]
  exact g.takeA fun x hx y hy=>by obtain ⟨j,h1,h2,h3,rfl⟩:=mv hx;exact hl j h1 h2 h3 y hy
theorem H.blkB (g:H (Le O key) T (a.toList.take na) (b.toList.take nb) out.toList.reverse) (h:i≤nb) (hl:∀j,i≤j→j < nb→j < b.size→∀y∈a.toList.take na,Le O key y (at' b j)):H (Le O key) T (a.toList.take na) (b.toList.take i) (out++(b.extract i nb).reverse).toList.reverse:=by
  rw [ms (a:=b) h] at g
  rw [Array.toList_append,List.reverse_append,Array.toList_reverse,List.reverse_reverse]
  exact g.takeB fun x hx y hy=>by obtain ⟨j,h1,h2,h3,rfl⟩:=mv hx;exact hl j h1 h2 h3 y hy
theorem H.doneA (g:H (Le O key) T (a.toList.take na) (b.toList.take nb) out.toList.reverse) (h:na=0):fm (Le O key) T (a.extract 0 na++b.extract 0 nb++out.reverse).toList:=by
  subst h
  rw [Array.toList_append,Array.toList_append,iP,iP,Array.toList_reverse]
  exact g.endB
theorem H.doneB (g:H (Le O key) T (a.toList.take na) (b.toList.take nb) out.toList.reverse) (h:nb=0):fm (Le O key) T (a.extract 0 na++b.extract 0 nb++out.reverse).toList:=by
  subst h
  rw [Array.toList_append,Array.toList_append,iP,iP,Array.toList_reverse,List.take_zero,List.append_nil]
  exact g.endA
theorem H.firstB (g:H (Le O key) T (a.toList.take na) (b.toList.take nb) out.toList.reverse) (h:nb=1) (h1:∀y∈a.toList,Le O key (at' b 0) y):fm (Le O key) T (b.extract 0 nb++a.extract 0 na++out.reverse).toList:=by
  rw [Array.toList_append,Array.toList_append,iP,iP,Array.toList_reverse,List.append_assoc]
  have g':H (Le O key) T ([]++a.toList.take na) (b.toList.take nb) out.toList.reverse:=g
  refine (g'.takeA fun x hx y hy=>?_).endB
  obtain ⟨j,q1,q2,rfl⟩:=mq hy
  rw [show j=0 by lia]
  exact h1 x (List.mem_of_mem_take hx)
end
section
variable {prog:Program} {w:World} {A:Around} {E:Value→Shared→Prop} {s:Shared} {κ:SortKind} {O:KeyOrd} {key:Keyed→O.α} {dom:Keyed→Prop} {st:SortSt}
theorem fq {α:Type} {c:Prop} [Decidable c] {x y:StateT SortSt Sem α} {Q:α→SortSt→Prop} (h1:c→wpS (model prog w) A E s x Q st) (h2:¬c→wpS (model prog w) A E s y Q st):wpS (model prog w) A E s (if c then x else y) Q st:=by
  split
  · rename_i z;exact h1 z
  · rename_i z;exact h2 z
theorem sq (C:Cmp prog w A s κ O key dom) {a b:Array Keyed} {Q:Array Keyed→SortSt→Prop} (hk:kindOf st=κ) (da:∀x∈a.toList,dom x) (db:∀x∈b.toList,dom x) (ha:0 < a.size) (hb:0 < b.size)
    (pa:a.toList.Pairwise (Le O key)) (pb:b.toList.Pairwise (Le O key)) (h0:∀y∈b.toList,Le O key y (at' a (a.size - 1))) (h1:∀y∈a.toList,Le O key (at' b 0) y)
    (h:∀r st',SS st st'→fm (Le O key) (a.toList++b.toList) r.toList→Q r st'):wpS (model prog w) A E s (uL a b) Q st:=by
  refine wpS_bind (wpS_lift (wpAny_rule ⟨rfl,?_⟩))
  have ha':a.size - 1 < a.size:=by exact Nat.sub_lt ‹_› Nat.one_pos
  refine wpS_bind (eV ha' ?_)
  obtain ⟨T,hT⟩:∃T,T=a.toList++b.toList:=⟨_,rfl⟩
  rw [←hT] at h
  have g0:H (Le O key) T (a.toList.take (a.size - 1)) (b.toList.take b.size) (#[at' a (a.size - 1)]:Array Keyed).toList.reverse:=by
    have q:H (Le O key) T (a.toList.take (a.size - 1+1)) (b.toList.take b.size) (#[]:Array Keyed).toList.reverse:=by
      have e1:a.toList.take (a.size - 1+1)=a.toList:=List.take_of_length_le (by simp;lia)
      have e2:b.toList.take b.size=b.toList:=List.take_of_length_le (by simp)
      rw [e1,e2]
      exact ⟨by simp [hT],by simpa using pa,by simpa using pb⟩
    exact q.pushA ha' fun y hy=>h0 y (List.mem_of_mem_take hy)
  have dA:∀i,i < a.size→dom (at' a i):=fun i hi=>da _ (g8 hi)
  have dB:∀i,i < b.size→dom (at' b i):=fun i hi=>db _ (g8 hi)
  by_cases e1:(a.size - 1 == 0)=true
  · refine aN e1 ?_
    exact wpS_pure (h _ st (SS.refl _) (g0.doneA (by simpa using e1)))
  refine aM e1 ?_
  by_cases e2:(b.size == 1)=true
  · refine aN e2 ?_
    exact wpS_pure (h _ st (SS.refl _) (g0.firstB (by simpa using e2) h1))
  refine aM e2 ?_
  refine wpS_bind (wpS_get ?_)
  refine wpS_bind (wpS_mono (wpS_forRange (I:=fun x c st'=>SS st st'∧∃na nb out mg,c=(none,na,nb,out,mg)∧na≤a.size∧1≤na∧nb≤b.size∧2≤nb∧na+nb+x < a.size+b.size∧H (Le O key) T (a.toList.take na) (b.toList.take nb) out.toList.reverse)
    (Q:=fun c st'=>SS st st'∧∃r o,c=(some r,o)∧fm (Le O key) T r.toList) ?s1 ?s2 ⟨SS.refl _,a.size - 1,b.size,_,_,rfl,by exact Nat.sub_le _ _,by simp at e1;exact Nat.pos_of_ne_zero ‹_›,by exact Nat.le_refl _,by simp at e2;lia,by lia,g0⟩) ?s3)
  case s3=>
    rintro c st' ⟨hs,r,o,rfl,hg⟩
    exact wpS_pure (h r st' hs hg)
  case s2=>
    rintro c st' ⟨hs,na,nb,out,mg,rfl,p1,q1,p2,q2,q3,g⟩
    lia
  case s1=>
    rintro x c st1 - hx ⟨hs,na,nb,out,mg,rfl,p1,q1,p2,q2,q3,g⟩
    refine wpS_bind (wpS_mono (wpS_forRange (I:=fun y c st'=>SS st st'∧∃na nb out ac bc,c=(none,na,nb,out,ac,bc)∧na≤a.size∧1≤na∧nb≤b.size∧2≤nb∧na+nb+x < a.size+b.size∧(y=0∨na+nb+(x+1) < a.size+b.size)∧H (Le O key) T (a.toList.take na) (b.toList.take nb) out.toList.reverse)
      (Q:=fun c st'=>SS st st'∧((∃r o,c=(some r,o)∧fm (Le O key) T r.toList)∨∃na nb out ac bc,c=(none,na,nb,out,ac,bc)∧na≤a.size∧1≤na∧nb≤b.size∧2≤nb∧na+nb+(x+1) < a.size+b.size∧H (Le O key) T (a.toList.take na) (b.toList.take nb) out.toList.reverse)) ?t1 ?t2 ⟨hs,na,nb,out,0,0,rfl,p1,q1,p2,q2,q3, .inl rfl,g⟩) ?t3)
    case t2=>
      rintro c st' ⟨hs,na,nb,out,ac,bc,rfl,p1,q1,p2,q2,q3,q4,g⟩
      exact ⟨hs, .inr ⟨na,nb,out,ac,bc,rfl,p1,q1,p2,q2,by lia,g⟩⟩
    case t1=>
      rintro y c st2 - hy ⟨hs,na,nb,out,ac,bc,rfl,p1,q1,p2,q2,q3,q4,g⟩
      obtain ⟨na,rfl⟩:∃n,na=n+1:=⟨na - 1,by exact (Nat.sub_add_cancel ‹_›).symm⟩
      obtain ⟨nb,rfl⟩:∃n,nb=n+1:=⟨nb - 1,by lia⟩
      have p1':na < a.size:=by assumption
      have p2':nb < b.size:=by assumption
      refine wpS_bind (eV p2' ?_)
      refine wpS_bind (eV p1' ?_)
      refine wpS_bind (uM C (hs.kind.trans hk) (dB _ p2') (dA _ p1') ?_)
      simp only [Nat.add_sub_cancel]
      cases e:O.blt (key (at' b nb)) (key (at' a na)) with
      | true=>
        refine wpS_bind (eV p1' ?_)
        have g':=g.pushA p1' (fun y hy=>(qF pb p2' hy).trans (Le.of e))
        by_cases z:(na == 0)=true
        · exact aN z (wpS_pure ⟨hs, .inl ⟨_,_,rfl,g'.doneA (by simpa using z)⟩⟩)
        · refine aM z ?_
          have z':1≤na:=by simp at z;exact Nat.pos_of_ne_zero ‹_›
          split
          · exact wpS_pure ⟨hs, .inr ⟨na,nb+1,_,_,_,rfl,by exact Nat.le_of_lt ‹_›,z',p2,q2,by lia,g'⟩⟩
          · exact wpS_pure ⟨hs,na,nb+1,_,_,_,rfl,by exact Nat.le_of_lt ‹_›,z',p2,q2,by lia, .inr (by lia),g'⟩
      | false=>
        refine wpS_bind (eV p2' ?_)
        have g':=g.pushB p2' (fun y hy=>(qF pa p1' hy).trans e)
        by_cases z:(nb == 1)=true
        · exact aN z (wpS_pure ⟨hs, .inl ⟨_,_,rfl,g'.firstB (by simpa using z) h1⟩⟩)
        · refine aM z ?_
          have z':2≤nb:=by simp at z;lia
          split
          · exact wpS_pure ⟨hs, .inr ⟨na+1,nb,_,_,_,rfl,p1,q1,by exact Nat.le_of_lt ‹_›,z',by lia,g'⟩⟩
          · exact wpS_pure ⟨hs,na+1,nb,_,_,_,rfl,p1,q1,by exact Nat.le_of_lt ‹_›,z',by lia, .inr (by lia),g'⟩
    case t3=>
      rintro c st2 ⟨hs,⟨r,o,rfl,hg⟩ | ⟨na,nb,out,ac,bc,rfl,p1,q1,p2,q2,q3,g⟩⟩
      · exact wpS_pure ⟨hs,r,_,rfl,hg⟩
      · refine wpS_bind (wpS_lift (wpAny_rule ⟨rfl,?_⟩))
        refine wpS_bind (wpS_mono (wpS_forRange (I:=fun y c st'=>SS st st'∧∃na nb out mg ac bc,c=(none,na,nb,out,mg,ac,bc)∧na≤a.size∧1≤na∧nb≤b.size∧2≤nb∧na+nb+(x+1) < a.size+b.size∧H (Le O key) T (a.toList.take na) (b.toList.take nb) out.toList.reverse)
          (Q:=fun c st'=>SS st st'∧((∃r o,c=(some r,o)∧fm (Le O key) T r.toList)∨∃na nb out mg ac bc,c=(none,na,nb,out,mg,ac,bc)∧na≤a.size∧1≤na∧nb≤b.size∧2≤nb∧na+nb+(x+1) < a.size+b.size∧H (Le O key) T (a.toList.take na) (b.toList.take nb) out.toList.reverse)) ?u1 ?u2 ⟨hs,na,nb,out,_,ac,bc,rfl,p1,q1,p2,q2,q3,g⟩) ?u3)
        case u2=>
          rintro c st' ⟨hs,na,nb,out,mg,ac,bc,rfl,p1,q1,p2,q2,q3,g⟩
          exact ⟨hs, .inr ⟨na,nb,out,mg,ac,bc,rfl,p1,q1,p2,q2,by assumption,g⟩⟩
        case u3=>
          rintro c st3 ⟨hs,⟨r,o,rfl,hg⟩ | ⟨na,nb,out,mg,ac,bc,rfl,p1,q1,p2,q2,q3,g⟩⟩
          · exact wpS_pure ⟨hs,r,_,rfl,hg⟩
          · exact wpS_bind (mo hs fun st4 h4=>wpS_pure ⟨h4,na,nb,out,_,rfl,p1,q1,p2,q2,q3,g⟩)
        case u1=>
          rintro y c st3 - hy ⟨hs,na,nb,out,mg,ac,bc,rfl,p1,q1,p2,q2,q3,g⟩
          refine yw fun R hR=>?_
          have Rd:∀r o st',SS st st'→fm (Le O key) T r.toList→R (.done (some r,o)) st':=fun r o st' a1 a2=>by rw [hR];exact ⟨a1, .inl ⟨r,o,rfl,a2⟩⟩
          have Rn:∀na nb out mg ac bc st',SS st st'→na≤a.size→1≤na→nb≤b.size→2≤nb→na+nb+(x+1) < a.size+b.size→H (Le O key) T (a.toList.take na) (b.toList.take nb) out.toList.reverse→R (.done (none,na,nb,out,mg,ac,bc)) st':=
            fun na nb out mg ac bc st' a1 a2 a3 a4 a5 a6 a7=>by rw [hR];exact ⟨a1, .inr ⟨_,_,_,_,_,_,rfl,a2,a3,a4,a5,a6,a7⟩⟩
          have Ry:∀na nb out mg ac bc st',SS st st'→na≤a.size→1≤na→nb≤b.size→2≤nb→na+nb+(x+1) < a.size+b.size→H (Le O key) T (a.toList.take na) (b.toList.take nb) out.toList.reverse→R (.yield (none,na,nb,out,mg,ac,bc)) st':=
            fun na nb out mg ac bc st' a1 a2 a3 a4 a5 a6 a7=>by rw [hR];exact ⟨a1,_,_,_,_,_,_,rfl,a2,a3,a4,a5,a6,a7⟩
          clear hR
          obtain ⟨nb,rfl⟩:∃n,nb=n+1:=⟨nb - 1,by lia⟩
          have p2':nb < b.size:=by assumption
          have q2':1≤nb:=by exact Nat.le_of_lt_succ ‹_›
          extract_lets
          rename Unit→Nat→_=>jp
          refine zV (jp ()) fun mg'=>?_
          refine wpS_bind (mo hs fun st4 h4=>?_)
          refine wpS_bind (eV p2' ?_)
          refine wpS_bind (fA C (k:=at' b nb) (base:=0) (n:=na) (hint:=na - 1) (h4.kind.trans hk) (by exact Nat.sub_lt ‹_› Nat.one_pos) (by lia) (dB _ p2') dA ?m1 fun k hk1 hk2 hk3=>?_)
          case m1=>
            intro i j hij hj e
            simp only [e8,Bool.false_eq_true,if_false,Bool.not_eq_true',Nat.zero_add] at e ⊢
            exact (k7 pa (by exact Nat.le_of_lt ‹_›) (by exact Nat.lt_of_lt_of_le ‹_› ‹_›):Le O key (at' a i) (at' a j)).trans e
          simp only [e8,Bool.false_eq_true,if_false,Bool.not_eq_true',Bool.not_eq_false',Nat.zero_add] at hk2 hk3
          dsimp -zeta only
          extract_lets
          rename Unit→Nat→Array Keyed→_=>jp1
          have J1:∀(na:Nat) (out:Array Keyed),na≤a.size→1≤na→na+(nb+1)+(x+1) < a.size+b.size→H (Le O key) T (a.toList.take na) (b.toList.take (nb+1)) out.toList.reverse→(∀y∈a.toList.take na,Le O key y (at' b nb))→wpS (model prog w) A E s (jp1 () na out) R st4:=by
            intro na out p1 q1 q3 g hl
            obtain ⟨na,rfl⟩:∃n,na=n+1:=⟨na - 1,by exact (Nat.sub_add_cancel ‹_›).symm⟩
            have p1':na < a.size:=by assumption
            refine wpS_bind (eV p2' ?_)
            have g':=g.pushB p2' hl
            by_cases z:(nb == 1)=true
            · exact aN z (wpS_pure (Rd _ _ _ h4 (g'.firstB (by simpa using z) h1)))
            refine aM z ?_
            have z':2≤nb:=by simp at z;lia
            refine wpS_bind (eV p1' ?_)
            refine wpS_bind (fA C (k:=at' a na) (base:=0) (n:=nb) (hint:=nb - 1) (h4.kind.trans hk) (by exact Nat.sub_lt ‹_› Nat.one_pos) (by lia) (dA _ p1') dB ?m2 fun k' hk1' hk2' hk3'=>?_)
            case m2=>
              intro i j hij hj e
              simp only [e8,if_true,Nat.zero_add] at e ⊢
              exact KeyOrd.klt_of_kle_of_klt (O:=O) (k7 pb (by exact Nat.le_of_lt ‹_›) (by lia):Le O key (at' b i) (at' b j)) e
            simp only [e8,if_true,Nat.zero_add] at hk2' hk3'
            dsimp -zeta only
            extract_lets
            rename Unit→Nat→Array Keyed→_=>jp2
            have J2:∀(nb':Nat) (out:Array Keyed),nb'≤b.size→2≤nb'→na+1+nb'+(x+1) < a.size+b.size→H (Le O key) T (a.toList.take (na+1)) (b.toList.take nb') out.toList.reverse→(∀y∈b.toList.take nb',Le O key y (at' a na))→wpS (model prog w) A E s (jp2 () nb' out) R st4:=by
              intro nb' out r1 r2 r3 g hl
              refine wpS_bind (eV p1' ?_)
              have g':=g.pushA p1' hl
              by_cases z:(na == 0)=true
              · exact aN z (wpS_pure (Rd _ _ _ h4 (g'.doneA (by simpa using z))))
              refine aM z ?_
              have z':1≤na:=by simp at z;exact Nat.pos_of_ne_zero ‹_›
              refine fq (fun _=>?_) (fun _=>?_)
              · exact wpS_pure (Rn _ _ _ _ _ _ _ h4 (by exact Nat.le_of_lt ‹_›) z' r1 r2 (by lia) g')
              · exact wpS_pure (Ry _ _ _ _ _ _ _ h4 (by exact Nat.le_of_lt ‹_›) z' r1 r2 (by lia) g')
            clear_value jp2
            have tl:∀y∈b.toList.take k',Le O key y (at' a na):=fun y hy=>by
              obtain ⟨j,r1,r2,rfl⟩:=mq hy
              exact Le.of (hk2' j r1)
            by_cases z2:nb - k' > 0
            · refine aN z2 ?_
              have g2:=g'.blkB hk1' fun j j1 j2 j3 y hy=>(qF pa p1' hy).trans (hk3' j j1 j2)
              by_cases z3:(k' == 1)=true
              · exact aN z3 (wpS_pure (Rd _ _ _ h4 (g2.firstB (by simpa using z3) h1)))
              refine aM z3 ?_
              by_cases z4:(k' == 0)=true
              · exact aN z4 (wpS_pure (Rd _ _ _ h4 (g2.doneB (by simpa using z4))))
              · exact aM z4 (J2 k' _ (by lia) (by simp at z3 z4;lia) (by lia) g2 tl)
            · have k0:k'=nb:=by exact Nat.le_antisymm ‹_› (Nat.sub_eq_zero_iff_le.mp (Nat.eq_zero_of_not_pos ‹_›))
              subst k0
              exact aM z2 (J2 k' _ (by exact Nat.le_of_lt ‹_›) z' (by lia) g' tl)
          clear_value jp1
          have tl:∀y∈a.toList.take k,Le O key y (at' b nb):=fun y hy=>by
            obtain ⟨j,r1,r2,rfl⟩:=mq hy
            exact hk2 j r1
          by_cases z2:na - k > 0
          · refine aN z2 ?_
            have g2:=g.blkA hk1 fun j j1 j2 j3 y hy=>(qF pb p2' hy).trans (Le.of (hk3 j j1 j2))
            by_cases z3:(k == 0)=true
            · exact aN z3 (wpS_pure (Rd _ _ _ h4 (g2.doneA (by simpa using z3))))
            · exact aM z3 (J1 k _ (by exact Nat.le_trans ‹_› ‹_›) (by simp at z3;exact Nat.pos_of_ne_zero ‹_›) (by lia) g2 tl)
          · have k0:k=na:=by exact Nat.le_antisymm ‹_› (Nat.sub_eq_zero_iff_le.mp (Nat.eq_zero_of_not_pos ‹_›))
            subst k0
            exact aM z2 (J1 k _ p1 q1 q3 g tl)
end
end NhLS
namespace NhLS
set_option autoImplicit false
open PySem PyProof.Rows
def So (O:KeyOrd) (key:Keyed→O.α) (a:Array Keyed) (lo hi:Nat):Prop:=∀i j,lo≤i→i < j→j < hi→Le O key (at' a i) (at' a j)
section
variable {O:KeyOrd} {key:Keyed→O.α} {a b:Array Keyed} {i j lo hi p:Nat} {x y z:Keyed}
theorem So.le (h:So O key a lo hi) (h1:lo≤i) (h2:i≤j) (h3:j < hi):Le O key (at' a i) (at' a j):=by
  by_cases e:i=j
  · rw [e];exact Le.refl _
  · exact h i j h1 (by exact Nat.lt_of_le_of_ne ‹_› ‹_›) h3
theorem So.ext (h:So O key a lo hi) (q:∀j,lo≤j→j < hi→at' b j=at' a j):So O key b lo hi:=fun i j h1 h2 h3=>by
  rw [q i (by assumption) (by lia),q j (by lia) h3]
  exact h i j h1 h2 h3
theorem nO (h1:i+j < hi) (h2:hi≤a.size):at' (a.extract i hi) j=at' a (i+j):=by
  simp [at',Array.getD,show j < min hi a.size - i by lia,show i+j < a.size by exact Nat.lt_of_lt_of_le ‹_› ‹_›]
theorem wZ (h1:lo≤hi) (h2:hi≤a.size):(a.extract lo hi).size=hi - lo:=by
  rw [Array.size_extract]
  lia
theorem w5 (h:So O key a lo hi) (h2:hi≤a.size):(a.extract lo hi).toList.Pairwise (Le O key):=by
  rw [List.pairwise_iff_getElem]
  intro i j hi' hj hij
  rw [Array.length_toList,Array.size_extract] at hi' hj
  rw [f7,f7,nO (by lia) h2,nO (by lia) h2]
  exact h _ _ (by exact Nat.le_add_right _ _) (by exact Nat.add_lt_add_left ‹_› _) (by lia)
theorem yx (h:i < a.size) (j:Nat):at' (a.setIfInBounds i x) j=if i=j then x else at' a j:=by
  unfold at'
  rw [Array.getD_eq_getD_getElem?,Array.getD_eq_getD_getElem?,Array.getElem?_setIfInBounds]
  by_cases e:i=j
  · subst e;simp [h]
  · simp [e]
def wr (a:Array Keyed) (p:Nat) (M:List (Keyed×Nat)):Array Keyed:=M.foldl (fun a q=>a.setIfInBounds (p+q.2) q.1) a
theorem qH (p:Nat):∀(M:List (Keyed×Nat)) (a:Array Keyed),(wr a p M).size=a.size
  | [],a=>rfl
  | q::M,a=>(qH p M _).trans (Array.size_setIfInBounds ..)
theorem uO (p:Nat):∀(M:List Keyed) (n:Nat) (a:Array Keyed),p+n+M.length≤a.size→∀j,at' (wr a p (M.zipIdx n)) j=if p+n≤j∧j < p+n+M.length then M.getD (j - (p+n)) wa else at' a j
  | [],n,a,h,j=>by
    rw [if_neg (by simp)]
    rfl
  | x::M,n,a,h,j=>by
    rw [List.length_cons] at h
    show at' (wr (a.setIfInBounds (p+n) x) p (M.zipIdx (n+1))) j=_
    rw [uO p M (n+1) _ (by rw [Array.size_setIfInBounds];lia),yx (by lia),List.length_cons]
    by_cases e:p+n=j
    · subst e
      rw [if_neg (by lia),if_pos rfl,if_pos (by lia),Nat.sub_self]
      rfl
    · by_cases q:p+(n+1)≤j∧j < p+(n+1)+M.length
      · rw [if_pos q,if_pos (by lia),show j - (p+n)=(j - (p+(n+1)))+1 by lia]
        rfl
      · rw [if_neg q,if_neg e,if_neg (by lia)]
theorem wb (M:List Keyed) (a:Array Keyed) (h:p+M.length≤a.size):(wr a p M.zipIdx).toList=a.toList.take p++M++a.toList.drop (p+M.length):=by
  have hs:=qH p M.zipIdx a
  refine List.ext_getElem (by simp [hs];lia) fun i h1 h2=>?_
  rw [f7,show M.zipIdx=M.zipIdx 0 from rfl,uO p M 0 a (by assumption)]
  have h1':i < a.size:=by simpa [hs] using h1
  by_cases c1:i < p
  · rw [if_neg (by lia),List.getElem_append_left (by simp;lia),List.getElem_append_left (by simp;lia),List.getElem_take,f7]
  · by_cases c2:i < p+M.length
    · rw [if_pos (by lia),List.getElem_append_left (by simp;lia),List.getElem_append_right (by simp;lia)]
      have e:i - (a.toList.take p).length=i - (p+0):=by simp;lia
      simp only [e]
      simp [show i - p < M.length by lia]
    · rw [if_neg (by exact fun h=>‹¬_› h.2),List.getElem_append_right (by simp;lia),List.getElem_drop,f7]
      congr 1
      simp
      lia
end
section
variable {prog:Program} {w:World} {A:Around} {E:Value→Shared→Prop} {s:Shared} {κ:SortKind} {O:KeyOrd} {key:Keyed→O.α} {dom:Keyed→Prop}
theorem wc {st st':SortSt} {Q:PUnit→SortSt→Prop} (h:Q ⟨⟩ st'):wpS (model prog w) A E s (set st':StateT SortSt Sem PUnit) Q st:=by
  unfold wpS;rw [StateT.run_set];exact wpAny_pure ⟨rfl,h⟩
theorem sr (C:Cmp prog w A s κ O key dom) {a:Array Keyed} {pd:Array (Nat×Nat×Nat)} {g i sa na pw nb pw':Nat} {Q:Bool→SortSt→Prop} (da:∀i,i < a.size→dom (at' a i)) (hp1:pd[i]? =some (sa,na,pw)) (hp2:pd[i+1]? =some (sa+na,nb,pw'))
    (h1:1≤na) (h2:1≤nb) (hz:sa+na+nb≤a.size) (s1:So O key a sa (sa+na)) (s2:So O key a (sa+na) (sa+na+nb))
    (h:∀b g',b.toList.Perm a.toList→(∀j,j < sa∨sa+na+nb≤j→at' b j=at' a j)→So O key b sa (sa+na+nb)→Q true (SortSt.mk' κ b ((pd.setIfInBounds i (sa,na+nb,pw)).eraseIdxIfInBounds (i+1)) g' none)):
    wpS (model prog w) A E s (mergeAt' i) Q (SortSt.mk' κ a pd g none):=by
  refine wpS_bind (wpS_get ?_)
  simp only [hp1,hp2]
  refine wpS_bind (wc ?_)
  have b1:sa+na < a.size:=by lia
  refine wpS_bind (eV b1 ?_)
  refine wpS_bind (fA C (k:=at' a (sa+na)) (arr:=a) (base:=sa) (n:=na) (hint:=0) rfl (by assumption) (by exact Nat.le_of_lt ‹_›) (da _ b1) da ?m1 fun k hk1 hk2 hk3=>?_)
  case m1=>
    intro i j hij hj e
    simp only [e8,Bool.false_eq_true,if_false,Bool.not_eq_true'] at e ⊢
    exact (s1.le (by exact Nat.le_add_right _ _) (by lia) (by exact Nat.add_lt_add_left ‹_› _):Le O key (at' a (sa+i)) (at' a (sa+j))).trans e
  simp only [e8,Bool.false_eq_true,if_false,Bool.not_eq_true',Bool.not_eq_false'] at hk2 hk3
  have lo:∀i,sa≤i→i < sa+k→∀j,sa+na≤j→j < sa+na+nb→Le O key (at' a i) (at' a j):=fun i r1 r2 j r3 r4=>by
    have:=hk2 (i - sa) (by exact Nat.sub_lt_left_of_lt_add ‹_› ‹_›)
    rw [show sa+(i - sa)=i by exact Nat.add_sub_of_le ‹_›] at this
    exact Le.trans this (s2.le (by (solve_by_elim (maxDepth:=3) only [*,Nat.le_trans,Nat.lt_of_lt_of_le,Nat.lt_of_le_of_lt,Nat.le_of_lt,Nat.add_le_add_left,Nat.add_lt_add_left,Nat.le_add_right,Nat.lt_of_succ_lt])) r3 r4)
  by_cases z:(na - k == 0)=true
  · refine aN z (wpS_pure (h a g (List.Perm.refl _) (fun _ _=>rfl) fun i j r1 r2 r3=>?_))
    have z':k=na:=by simp at z;lia
    by_cases c:j < sa+na
    · exact s1 i j r1 r2 c
    · by_cases c':i < sa+na
      · exact lo i r1 (by lia) j (by exact Nat.le_of_not_lt ‹_›) r3
      · exact s2 i j (by exact Nat.le_of_not_lt ‹_›) r2 r3
  refine aM z ?_
  have z':k < na:=by simp at z;lia
  have b2:sa+na - 1 < a.size:=by exact Nat.lt_of_le_of_lt (Nat.sub_le _ _) ‹_›
  rw [show sa+k+(na - k) - 1=sa+na - 1 by lia]
  refine wpS_bind (eV b2 ?_)
  refine wpS_bind (fA C (k:=at' a (sa+na - 1)) (arr:=a) (base:=sa+na) (n:=nb) (hint:=nb - 1) rfl (by exact Nat.sub_lt ‹_› Nat.one_pos) (by assumption) (da _ b2) da ?m2 fun m hm1 hm2 hm3=>?_)
  case m2=>
    intro i j hij hj e
    simp only [e8,if_true] at e ⊢
    exact KeyOrd.klt_of_kle_of_klt (O:=O) (s2.le (by exact Nat.le_add_right _ _) (by lia) (by exact Nat.add_lt_add_left ‹_› _):Le O key (at' a (sa+na+i)) (at' a (sa+na+j))) e
  simp only [e8,if_true] at hm2 hm3
  have up:∀j,sa+na+m≤j→j < sa+na+nb→∀i,sa≤i→i < sa+na→Le O key (at' a i) (at' a j):=fun j r3 r4 i r1 r2=>by
    have:=hm3 (j - (sa+na)) (by exact Nat.le_sub_of_add_le' ‹_›) (by lia)
    rw [show sa+na+(j - (sa+na))=j by exact Nat.add_sub_of_le (Nat.le_trans (Nat.le_add_right _ _) ‹_›)] at this
    exact (s1.le r1 (by lia) (by lia):Le O key (at' a i) (at' a (sa+na - 1))).trans this
  by_cases y:(m == 0)=true
  · refine aN y (wpS_pure (h a g (List.Perm.refl _) (fun _ _=>rfl) fun i j r1 r2 r3=>?_))
    have y':m=0:=by simpa using y
    by_cases c:j < sa+na
    · exact s1 i j r1 r2 c
    · by_cases c':i < sa+na
      · exact up j (by lia) r3 i r1 c'
      · exact s2 i j (by exact Nat.le_of_not_lt ‹_›) r2 r3
  refine aM y ?_
  have y':0 < m:=by simp at y;exact Nat.pos_of_ne_zero ‹_›
  have zx:(a.extract (sa+k) (sa+na)).size=na - k:=by rw [wZ (by exact Nat.add_le_add_left ‹_› _) (by exact Nat.le_of_lt ‹_›)];lia
  have zy:(a.extract (sa+na) (sa+na+m)).size=m:=by rw [wZ (by exact Nat.le_add_right _ _) (by lia)];lia
  have mx:∀x∈(a.extract (sa+k) (sa+na)).toList,∃t,sa+k≤t∧t < sa+na∧x=at' a t:=fun x hx=>by
    obtain ⟨t,t1,t2,t3,t4⟩:=mv hx
    exact ⟨t,t1,t2,t4⟩
  have my:∀x∈(a.extract (sa+na) (sa+na+m)).toList,∃t,sa+na≤t∧t < sa+na+m∧x=at' a t:=fun x hx=>by
    obtain ⟨t,t1,t2,t3,t4⟩:=mv hx
    exact ⟨t,t1,t2,t4⟩
  have dx:∀x∈(a.extract (sa+k) (sa+na)).toList,dom x:=fun x hx=>by obtain ⟨t,t1,t2,rfl⟩:=mx x hx;exact da _ (by lia)
  have dy:∀x∈(a.extract (sa+na) (sa+na+m)).toList,dom x:=fun x hx=>by obtain ⟨t,t1,t2,rfl⟩:=my x hx;exact da _ (by lia)
  have px:=w5 (hi:=sa+na) (lo:=sa+k) (a:=a) (fun i j r1 r2 r3=>s1 i j (by exact Nat.le_trans (Nat.le_add_right _ _) ‹_›) r2 r3) (by exact Nat.le_of_lt ‹_›)
  have py:=w5 (hi:=sa+na+m) (lo:=sa+na) (a:=a) (fun i j r1 r2 r3=>s2 i j (by assumption) r2 (by lia)) (by lia)
  have fx:at' (a.extract (sa+k) (sa+na)) 0=at' a (sa+k):=nO (by exact Nat.add_lt_add_left ‹_› _) (by exact Nat.le_of_lt ‹_›)
  have lx:at' (a.extract (sa+k) (sa+na)) ((a.extract (sa+k) (sa+na)).size - 1)=at' a (sa+na - 1):=by
    rw [zx,nO (by lia) (by exact Nat.le_of_lt ‹_›)]
    congr 1
    lia
  have fy:at' (a.extract (sa+na) (sa+na+m)) 0=at' a (sa+na):=nO (by exact Nat.add_lt_add_left ‹_› _) (by lia)
  have h0:O.blt (key (at' a (sa+na))) (key (at' a (sa+k)))=true:=hk3 k (by exact Nat.le_refl _) z'
  have yl:∀y∈(a.extract (sa+na) (sa+na+m)).toList,Le O key y (at' a (sa+na - 1)):=fun y hy=>by
    obtain ⟨t,t1,t2,rfl⟩:=my y hy
    have:=hm2 (t - (sa+na)) (by exact Nat.sub_lt_left_of_lt_add ‹_› ‹_›)
    rw [show sa+na+(t - (sa+na))=t by exact Nat.add_sub_of_le ‹_›] at this
    exact Le.of this
  have xf:∀y∈(a.extract (sa+k) (sa+na)).toList,Le O key (at' a (sa+na)) y:=fun y hy=>by
    obtain ⟨t,t1,t2,rfl⟩:=mx y hy
    exact (Le.of h0).trans (s1.le (by exact Nat.le_add_right _ _) t1 t2)
  have fin:∀(r:Array Keyed) (g':Nat),fm (Le O key) ((a.extract (sa+k) (sa+na)).toList++(a.extract (sa+na) (sa+na+m)).toList) r.toList→
      Q true (SortSt.mk' κ (wr a (sa+k) r.toList.zipIdx) ((pd.setIfInBounds i (sa,na+nb,pw)).eraseIdxIfInBounds (i+1)) g' none):=by
    intro r g' ⟨gp,gs⟩
    have rl:r.toList.length=na - k+m:=by rw [gp.length_eq,List.length_append,Array.length_toList,Array.length_toList,zx,zy]
    have at1:=uO (sa+k) r.toList 0 a (by lia)
    have rm:∀x∈r.toList,∃t,sa+k≤t∧t < sa+na+m∧x=at' a t:=fun x hx=>by
      rcases List.mem_append.mp (gp.mem_iff.mp hx) with hx | hx
      · obtain ⟨t,t1,t2,e⟩:=mx x hx
        exact ⟨t,t1,by exact Nat.lt_add_right _ ‹_›,e⟩
      · obtain ⟨t,t1,t2,e⟩:=my x hx
        exact ⟨t,by lia,t2,e⟩
    have rg:∀n,n < r.toList.length→r.toList.getD n wa=at' r n:=fun n hn=>by
      have hn':n < r.size:=by simpa using hn
      rw [←f7 hn]
      simp [hn']
    have rt:∀n,n < r.toList.length→∃t,sa+k≤t∧t < sa+na+m∧at' r n=at' a t:=fun n hn=>rm _ (by rw [←f7 hn];exact List.getElem_mem _)
    refine h _ g' ?_ (fun j hj=>?_) fun i j r1 r2 r3=>?_
    · rw [wb _ _ (by lia)]
      have ea:a.toList=a.toList.take (sa+k)++((a.extract (sa+k) (sa+na)).toList++(a.extract (sa+na) (sa+na+m)).toList)++a.toList.drop (sa+k+r.toList.length):=by
        rw [←List.append_assoc,←ms (by exact Nat.add_le_add_left ‹_› _),←ms (by exact Nat.le_add_right _ _),rl,show sa+k+(na - k+m)=sa+na+m by lia,List.take_append_drop]
      refine List.Perm.trans ?_ (List.Perm.of_eq ea.symm)
      exact List.Perm.append_right _ (List.Perm.append_left _ gp)
    · show at' (wr a (sa+k) (r.toList.zipIdx 0)) j=_
      rw [at1,if_neg (by lia)]
    · show Le O key (at' (wr a (sa+k) (r.toList.zipIdx 0)) i) (at' (wr a (sa+k) (r.toList.zipIdx 0)) j)
      rw [at1,at1]
      by_cases ci:i < sa+k
      · rw [if_neg (by lia)]
        by_cases cj:j < sa+na+m
        · by_cases cj':j < sa+k
          · rw [if_neg (by lia)]
            exact s1 i j r1 r2 (by lia)
          · rw [if_pos (by lia),rg _ (by lia)]
            obtain ⟨t,t1,t2,e⟩:=rt (j - (sa+k+0)) (by lia)
            rw [e]
            by_cases ct:t < sa+na
            · exact s1 i t r1 (by exact Nat.lt_of_lt_of_le ‹_› ‹_›) ct
            · exact lo i r1 ci t (by exact Nat.le_of_not_lt ‹_›) (by lia)
        · rw [if_neg (by lia)]
          exact lo i r1 ci j (by lia) r3
      · by_cases ci':i < sa+na+m
        · rw [if_pos (by lia),rg _ (by lia)]
          by_cases cj:j < sa+na+m
          · rw [if_pos (by lia),rg _ (by lia)]
            have:=List.pairwise_iff_getElem.mp gs (i - (sa+k+0)) (j - (sa+k+0)) (by lia) (by lia) (by lia)
            rw [f7,f7] at this
            exact this
          · rw [if_neg (by lia)]
            obtain ⟨t,t1,t2,e⟩:=rt (i - (sa+k+0)) (by lia)
            rw [e]
            by_cases ct:t < sa+na
            · exact up j (by exact Nat.le_of_not_lt ‹_›) r3 t (by exact Nat.le_trans (Nat.le_add_right _ _) ‹_›) ct
            · exact s2 t j (by exact Nat.le_of_not_lt ‹_›) (by lia) r3
        · rw [if_neg (by lia),if_neg (by lia)]
          exact s2 i j (by lia) r2 r3
  refine fq (fun _=>?_) (fun _=>?_)
  · refine wpS_bind (sm C rfl dx dy (by lia) (by lia) px py (by rw [fx,fy];exact h0) (by rw [lx];exact yl) fun r st' hs hg=>?_)
    obtain ⟨g',rfl⟩:=hs
    exact wpS_bind (wpS_modify (wpS_bind (wpS_get (wpS_pure (fin r g' hg)))))
  · refine wpS_bind (sq C rfl dx dy (by lia) (by lia) px py (by rw [lx];exact yl) (by rw [fy];exact xf) fun r st' hs hg=>?_)
    obtain ⟨g',rfl⟩:=hs
    exact wpS_bind (wpS_modify (wpS_bind (wpS_get (wpS_pure (fin r g' hg)))))
end
end NhLS
namespace NhLS
set_option autoImplicit false
open PySem PyProof.Rows
structure Sx (a b:Array Keyed) (lo hi:Nat):Prop where
  perm:b.toList.Perm a.toList
  out:∀j,j < lo∨hi≤j→at' b j=at' a j
def Dn (O:KeyOrd) (key:Keyed→O.α) (a:Array Keyed) (lo hi:Nat):Prop:=∀i j,lo≤i→i < j→j < hi→Le O key (at' a j) (at' a i)
def Eqs (O:KeyOrd) (key:Keyed→O.α) (a:Array Keyed) (e q:Nat):Prop:=∀i,e - (q+1)≤i→i < e→Le O key (at' a i) (at' a (e - 1))∧Le O key (at' a (e - 1)) (at' a i)
section
variable {O:KeyOrd} {key:Keyed→O.α} {a b c:Array Keyed} {i j k lo hi n q:Nat}
theorem Sx.refl:Sx a a lo hi:=⟨List.Perm.refl _,fun _ _=>rfl⟩
theorem Sx.trans (h1:Sx a b lo hi) (h2:Sx b c lo hi):Sx a c lo hi:=⟨h2.perm.trans h1.perm,fun j hj=>(h2.out j hj).trans (h1.out j hj)⟩
theorem Sx.size (h:Sx a b lo hi):b.size=a.size:=by have:=h.perm.length_eq;simpa using this
theorem Sx.dom {dom:Keyed→Prop} (h:Sx a b lo hi) (da:∀x∈a.toList,dom x):∀x∈b.toList,dom x:=fun x hx=>da x (h.perm.mem_iff.mp hx)
theorem wd (a:Array Keyed) (i:Nat):at' a i=(a[i]?).getD wa:=Array.getD_eq_getD_getElem? ..
theorem fP (hj:j≤a.size) (k:Nat):at' (mirror a i j ((j - i) / 2)) k=if i≤k∧k < j then at' a (i+j - 1 - k) else at' a k:=by
  rw [wd,getElem?_mirror_all hj]
  split <;> rw [wd]
theorem pi (hk:k < a.size) (hd:n≤k) (i:Nat):at' (bubble a k n) i=if i=k - n then at' a k else if k - n < i∧i≤k then at' a (i - 1) else at' a i:=by
  rw [wd,getElem?_bubble hk n hd]
  repeat' split
  all_goals rw [wd]
theorem Sx.rev (h1:lo≤i) (h2:j≤hi) (h3:j≤a.size):Sx a (mirror a i j ((j - i) / 2)) lo hi:=
  ⟨Array.perm_iff_toList_perm.mp (mirror_perm _ _ _ _),fun k hk=>by rw [fP h3,if_neg (by lia)]⟩
theorem Sx.bub (h1:k < a.size) (h0:n≤k) (h2:lo≤k - n) (h3:k < hi):Sx a (bubble a k n) lo hi:=
  ⟨Array.perm_iff_toList_perm.mp (bubble_perm _ _ _),fun j hj=>by rw [pi h1 h0,if_neg (by lia),if_neg (by lia)]⟩
theorem So.step (h:So O key a lo hi) (hl:lo < hi) (e:Le O key (at' a (hi - 1)) (at' a hi)):So O key a lo (hi+1):=fun i j h1 h2 h3=>by
  by_cases c:j < hi
  · exact h i j h1 h2 c
  · rw [show j=hi by lia]
    exact (h.le h1 (by lia) (by lia):Le O key (at' a i) (at' a (hi - 1))).trans e
theorem Dn.le (h:Dn O key a lo hi) (h1:lo≤i) (h2:i≤j) (h3:j < hi):Le O key (at' a j) (at' a i):=by
  by_cases e:i=j
  · rw [e];exact Le.refl _
  · exact h i j h1 (by exact Nat.lt_of_le_of_ne ‹_› ‹_›) h3
theorem Dn.step (h:Dn O key a lo hi) (hl:lo < hi) (e:Le O key (at' a hi) (at' a (hi - 1))):Dn O key a lo (hi+1):=fun i j h1 h2 h3=>by
  by_cases c:j < hi
  · exact h i j h1 h2 c
  · rw [show j=hi by lia]
    exact Le.trans e (h.le h1 (by lia) (by lia))
theorem Dn.rev (h:Dn O key a lo hi) (e:Eqs O key a hi q) (hz:hi≤a.size) (hq:lo+(q+1)≤hi):Dn O key (mirror a (hi - (q+1)) hi ((hi - (hi - (q+1))) / 2)) lo hi:=fun i j h1 h2 h3=>by
  rw [fP hz,fP hz]
  by_cases c:hi - (q+1)≤i
  · rw [if_pos (by lia),if_pos (by lia)]
    exact (e _ (by lia) (by lia)).1.trans (e _ (by lia) (by lia)).2
  · rw [if_neg (show ¬(hi - (q+1)≤i∧i < hi) by exact fun h=>‹¬_› h.1)]
    by_cases c':hi - (q+1)≤j
    · rw [if_pos (by exact ⟨‹_›,‹_›⟩)]
      exact h _ _ h1 (by lia) (by lia)
    · rw [if_neg (by exact fun h=>‹¬_› h.1)]
      exact h _ _ h1 h2 h3
theorem Dn.flip (h:Dn O key a lo hi) (hz:hi≤a.size):So O key (mirror a lo hi ((hi - lo) / 2)) lo hi:=fun i j h1 h2 h3=>by
  rw [fP hz,fP hz,if_pos (by lia),if_pos (by lia)]
  exact h _ _ (by lia) (by lia) (by lia)
theorem Eqs.one:Eqs O key a (hi+1) 0:=fun i h1 h2=>by
  rw [show i=hi by lia]
  exact ⟨Le.refl _,Le.refl _⟩
end
section
variable {prog:Program} {w:World} {A:Around} {E:Value→Shared→Prop} {s:Shared} {κ:SortKind} {O:KeyOrd} {key:Keyed→O.α} {dom:Keyed→Prop} {a:Array Keyed} {pd:Array (Nat×Nat×Nat)} {g:Nat}
theorem iQ (C:Cmp prog w A s κ O key dom) {i j:Nat} {Q:Option Bool→SortSt→Prop} (da:∀x∈a.toList,dom x) (hi:i < a.size) (hj:j < a.size) (h:Q (some (O.blt (key (at' a i)) (key (at' a j)))) (SortSt.mk' κ a pd g none)):wpS (model prog w) A E s (ltAt' i j) Q (SortSt.mk' κ a pd g none):=
  wpS_bind (wpS_get (wpS_bind (eV hi (wpS_bind (eV hj (uM C rfl (da _ (g8 hi)) (da _ (g8 hj)) h))))))
theorem qI {i j:Nat} {Q:Unit→SortSt→Prop} (h:Q () (SortSt.mk' κ (mirror a i j ((j - i) / 2)) pd g none)):wpS (model prog w) A E s (reverseSlice' i j) Q (SortSt.mk' κ a pd g none):=wpS_modify h
theorem yy {k l:Nat} {Q:Unit→SortSt→Prop} (h:Q () (SortSt.mk' κ (bubble a k (k - l)) pd g none)):wpS (model prog w) A E s (moveDown' k l) Q (SortSt.mk' κ a pd g none):=wpS_modify h
theorem w6 {lo n0 nrem:Nat} {β:Type} {body:Nat→Option β×Nat→StateT SortSt Sem (ForInStep (Option β×Nat))} {Q:Option β×Nat→SortSt→Prop} (h1:1≤n0) (h2:n0≤nrem) (hs:So O key a lo (lo+n0))
    (hb:∀x n (R:ForInStep (Option β×Nat)→SortSt→Prop),1≤n→n < nrem→R (if O.blt (key (at' a (lo+n))) (key (at' a (lo+n - 1)))=true then .done (none,n) else .yield (none,n+1)) (SortSt.mk' κ a pd g none)→wpS (model prog w) A E s (body x (none,n)) R (SortSt.mk' κ a pd g none))
    (h:∀n,n0≤n→n≤nrem→So O key a lo (lo+n)→(n < nrem→O.blt (key (at' a (lo+n))) (key (at' a (lo+n - 1)))=true)→Q (none,n) (SortSt.mk' κ a pd g none)):
    wpS (model prog w) A E s (forIn [n0:nrem] (none,n0) body) Q (SortSt.mk' κ a pd g none):=by
  refine wpS_forRange (I:=fun x c st'=>st'=SortSt.mk' κ a pd g none∧c=(none,x)∧n0≤x∧So O key a lo (lo+x)) ?_ ?_ ⟨rfl,rfl,Nat.le_refl _,hs⟩
  · rintro x c st' q1 q2 ⟨rfl,rfl,q3,q4⟩
    refine hb x x _ (by exact Nat.lt_of_lt_of_le ‹_› ‹_›) q2 ?_
    cases e:O.blt (key (at' a (lo+x))) (key (at' a (lo+x - 1))) with
    | true=>exact h x q3 (by exact Nat.le_of_lt ‹_›) q4 fun _=>e
    | false=>exact ⟨rfl,rfl,by (solve_by_elim (maxDepth:=3) only [*,Nat.le_trans,Nat.lt_of_lt_of_le,Nat.lt_of_le_of_lt,Nat.le_of_lt]),q4.step (by lia) e⟩
  · rintro c st' ⟨rfl,rfl,q3,q4⟩
    rw [show max n0 nrem=nrem by exact Nat.max_eq_right ‹_›] at q4 ⊢
    exact h nrem h2 (Nat.le_refl _) q4 fun z=>absurd z (Nat.lt_irrefl _)
theorem mw (C:Cmp prog w A s κ O key dom) {lo n ok:Nat} {Q:Bool→SortSt→Prop} (da:∀x∈a.toList,dom x) (h1:1≤ok) (h2:ok≤n) (hz:lo+n≤a.size) (hs:So O key a lo (lo+ok))
    (h:∀b,Sx a b lo (lo+n)→So O key b lo (lo+n)→Q true (SortSt.mk' κ b pd g none)):wpS (model prog w) A E s (binarySort' lo n ok) Q (SortSt.mk' κ a pd g none):=by
  refine wpS_bind (wpS_mono (wpS_forRange (I:=fun k c st'=>c=(none,())∧∃b,st'=SortSt.mk' κ b pd g none∧Sx a b lo (lo+n)∧So O key b lo (lo+k)) (Q:=fun c st'=>c=(none,())∧∃b,st'=SortSt.mk' κ b pd g none∧Sx a b lo (lo+n)∧So O key b lo (lo+n)) ?s1 ?s2 ⟨rfl,a,rfl, .refl,by rw [show max ok 1=ok by exact Nat.max_eq_left ‹_›];exact hs⟩) ?s3)
  case s3=>
    rintro c st' ⟨rfl,b,rfl,sb,ss⟩
    exact wpS_pure (h b sb ss)
  case s2=>
    rintro c st' ⟨rfl,b,rfl,sb,ss⟩
    rw [show max (max ok 1) n=n by lia] at ss
    exact ⟨rfl,b,rfl,sb,ss⟩
  case s1=>
    rintro k c st' k1 k2 ⟨rfl,b,rfl,sb,ss⟩
    have bz:=sb.size
    have ik:lo+k < b.size:=by lia
    refine wpS_bind (wpS_mono (wpS_forRange (I:=fun x c st'=>st'=SortSt.mk' κ b pd g none∧∃l r,c=(none,l,r)∧l≤r∧r≤k∧r+x≤k+l∧(∀i,i < l→Le O key (at' b (lo+i)) (at' b (lo+k)))∧(∀i,r≤i→i < k→Le O key (at' b (lo+k)) (at' b (lo+i))))
      (Q:=fun c st'=>st'=SortSt.mk' κ b pd g none∧∃l,c=(none,l,l)∧l≤k∧(∀i,i < l→Le O key (at' b (lo+i)) (at' b (lo+k)))∧(∀i,l≤i→i < k→Le O key (at' b (lo+k)) (at' b (lo+i)))) ?t1 ?t2 ⟨rfl,0,k,rfl,by exact Nat.zero_le _,by exact Nat.le_refl _,by (solve_by_elim (maxDepth:=3) only [*,Nat.le_trans,Nat.lt_of_lt_of_le,Nat.lt_of_le_of_lt,Nat.le_of_lt,Nat.add_le_add_left,Nat.add_lt_add_left,Nat.le_add_right,Nat.lt_of_succ_lt]),fun i hi=>by lia,fun i h1 h2=>by lia⟩) ?t3)
    case t2=>
      rintro c st' ⟨rfl,l,r,rfl,p1,p2,p3,p4,p5⟩
      have:l=r:=by lia
      subst this
      exact ⟨rfl,l,rfl,p2,p4,p5⟩
    case t1=>
      rintro x c st' - x2 ⟨rfl,l,r,rfl,p1,p2,p3,p4,p5⟩
      dsimp only
      refine fq (fun z=>?_) (fun z=>?_)
      · have:l=r:=by exact Nat.le_antisymm ‹_› ‹_›
        subst this
        exact wpS_pure ⟨rfl,l,rfl,p2,p4,p5⟩
      · have im:lo+(l+r) / 2 < b.size:=by lia
        refine wpS_bind (iQ C (sb.dom da) ik im ?_)
        cases e:O.blt (key (at' b (lo+k))) (key (at' b (lo+(l+r) / 2))) with
        | true=>exact wpS_pure ⟨rfl,l,(l+r) / 2,rfl,by lia,by lia,by lia,p4,fun i r1 r2=>(Le.of e).trans (ss.le (by exact Nat.le_add_right _ _) (by exact Nat.add_le_add_left ‹_› _) (by exact Nat.add_lt_add_left ‹_› _))⟩
        | false=>exact wpS_pure ⟨rfl,(l+r) / 2+1,r,rfl,by lia,by assumption,by lia,fun i r1=>(ss.le (by exact Nat.le_add_right _ _) (by lia) (by lia):Le O key (at' b (lo+i)) (at' b (lo+(l+r) / 2))).trans e,p5⟩
    case t3=>
      rintro c st' ⟨rfl,l,rfl,p2,p4,p5⟩
      refine wpS_bind (yy (wpS_pure ⟨rfl,_,rfl,sb.trans (Sx.bub (k:=lo+k) (n:=lo+k - (lo+l)) ik (by exact Nat.sub_le _ _) (by lia) (by exact Nat.add_lt_add_left ‹_› _)),fun i j r1 r2 r3=>?_⟩))
      have q4:∀i,lo≤i→i < lo+l→Le O key (at' b i) (at' b (lo+k)):=fun i u1 u2=>by have:=p4 (i - lo) (by exact Nat.sub_lt_left_of_lt_add ‹_› ‹_›);rwa [show lo+(i - lo)=i by exact Nat.add_sub_of_le ‹_›] at this
      have q5:∀i,lo+l≤i→i < lo+k→Le O key (at' b (lo+k)) (at' b i):=fun i u1 u2=>by have:=p5 (i - lo) (by exact Nat.le_sub_of_add_le' ‹_›) (by lia);rwa [show lo+(i - lo)=i by exact Nat.add_sub_of_le (Nat.le_trans (Nat.le_add_right _ _) ‹_›)] at this
      show Le O key (at' (bubble b (lo+k) (lo+k - (lo+l))) i) (at' (bubble b (lo+k) (lo+k - (lo+l))) j)
      rw [pi ik (by exact Nat.sub_le _ _),pi ik (by exact Nat.sub_le _ _),show lo+k - (lo+k - (lo+l))=lo+l by lia]
      repeat' split
      all_goals first
        | (exfalso;lia)
        | exact q4 _ (by assumption) (by (first | exact Nat.lt_of_lt_of_eq ‹_› ‹_› | lia))
        | exact q5 _ (by (first | exact Nat.add_le_add_left ‹_› _ | lia)) (by lia)
        | exact ss _ _ (by (first | assumption | lia)) (by (first | assumption | lia)) (by lia)
theorem pj (C:Cmp prog w A s κ O key dom) {lo nrem:Nat} {Q:Option Nat→SortSt→Prop} (da:∀x∈a.toList,dom x) (h1:1≤nrem) (hz:lo+nrem≤a.size)
    (h:∀m b,1≤m→m≤nrem→Sx a b lo (lo+nrem)→So O key b lo (lo+m)→Q (some m) (SortSt.mk' κ b pd g none)):wpS (model prog w) A E s (countRun' lo nrem) Q (SortSt.mk' κ a pd g none):=by
  refine wpS_bind (w6 (O:=O) (key:=key) (a:=a) (lo:=lo) (n0:=1) (nrem:=nrem) (Nat.le_refl _) h1 (fun i j r1 r2 r3=>by lia) (fun x n R n1 n2 hR=>?_) fun n q1 q2 q3 q4=>?_)
  · refine wpS_bind (iQ C da (show lo+n < a.size by lia) (show lo+n - 1 < a.size by lia) ?_)
    cases e:O.blt (key (at' a (lo+n))) (key (at' a (lo+n - 1))) with
    | true=>rw [e] at hR;exact wpS_pure hR
    | false=>rw [e] at hR;exact wpS_pure hR
  dsimp -zeta only
  by_cases z:(n == nrem)=true
  · exact aN z (wpS_pure (h n a q1 q2 .refl q3))
  refine aM z ?_
  have z':n < nrem:=by simp at z;exact Nat.lt_of_le_of_ne ‹_› ‹_›
  have sn:=q4 z'
  extract_lets
  rename Unit→_=>jp
  have J:∀b,Sx a b lo (lo+nrem)→Dn O key b lo (lo+n+1)→wpS (model prog w) A E s (jp ()) Q (SortSt.mk' κ b pd g none):=by
    intro b sb db
    refine wpS_bind (wpS_lift (wpAny_rule ⟨rfl,?_⟩))
    refine wpS_bind (wpS_mono (wpS_forRange (I:=fun x c st'=>∃b q,st'=SortSt.mk' κ b pd g none∧Sx a b lo (lo+nrem)∧c=(none,x,q)∧q+1≤x∧n+1≤x∧Dn O key b lo (lo+x)∧Eqs O key b (lo+x) q)
      (Q:=fun c st'=>∃b m q,st'=SortSt.mk' κ b pd g none∧Sx a b lo (lo+nrem)∧c=(none,m,q)∧q+1≤m∧m≤nrem∧Dn O key b lo (lo+m)∧Eqs O key b (lo+m) q) ?s1 ?s2 ⟨b,0,rfl,sb,rfl,by exact Nat.lt_succ_of_lt ‹_›,by exact Nat.lt_succ_self _,db,Eqs.one⟩) ?s3)
    case s2=>
      rintro c st' ⟨b,q,rfl,sb,rfl,p1,p2,p3,p4⟩
      rw [show max (n+1) nrem=nrem by exact Nat.max_eq_right ‹_›] at *
      exact ⟨b,nrem,q,rfl,sb,rfl,p1,Nat.le_refl _,p3,p4⟩
    case s1=>
      rintro x c st' x1 x2 ⟨b,q,rfl,sb,rfl,p1,p2,p3,p4⟩
      have bz:=sb.size
      have i1:lo+x < b.size:=by lia
      have i2:lo+x - 1 < b.size:=by exact Nat.lt_of_le_of_lt (Nat.sub_le _ _) ‹_›
      refine wpS_bind (iQ C (sb.dom da) i1 i2 ?_)
      cases e:O.blt (key (at' b (lo+x))) (key (at' b (lo+x - 1))) with
      | true=>
        dsimp only
        rw [if_pos rfl]
        refine fq (fun z=>?_) (fun z=>?_)
        · refine wpS_bind (qI (wpS_pure ⟨_,0,rfl,sb.trans (Sx.rev (by lia) (by lia) (by exact Nat.le_of_lt ‹_›)),rfl,by exact Nat.le_add_left _ _,by exact Nat.lt_succ_of_lt ‹_›,?_,Eqs.one⟩))
          refine (p3.rev p4 (by exact Nat.le_of_lt ‹_›) (by exact Nat.add_lt_add_left ‹_› _)).step (by lia) ?_
          rw [fP (by exact Nat.le_of_lt ‹_›),fP (by exact Nat.le_of_lt ‹_›),if_neg (by lia),if_pos (by lia)]
          exact (Le.of e).trans (p4 _ (by lia) (by lia)).2
        · exact wpS_pure ⟨b,0,rfl,sb,rfl,by exact Nat.le_add_left _ _,by exact Nat.lt_succ_of_lt ‹_›,p3.step (by lia) (Le.of e),Eqs.one⟩
      | false=>
        dsimp only
        rw [if_neg (by simp)]
        refine wpS_bind (iQ C (sb.dom da) i2 i1 ?_)
        cases e':O.blt (key (at' b (lo+x - 1))) (key (at' b (lo+x))) with
        | true=>exact wpS_pure ⟨b,x,q,rfl,sb,rfl,p1,by exact Nat.le_of_lt ‹_›,p3,p4⟩
        | false=>
          refine wpS_pure ⟨b,q+1,rfl,sb,rfl,by exact Nat.succ_lt_succ ‹_›,by exact Nat.lt_succ_of_lt ‹_›,p3.step (by lia) e',fun i r1 r2=>?_⟩
          show Le O key (at' b i) (at' b (lo+x))∧Le O key (at' b (lo+x)) (at' b i)
          by_cases c:i=lo+x
          · rw [c];exact ⟨Le.refl _,Le.refl _⟩
          · obtain ⟨u1,u2⟩:=p4 i (by lia) (by lia)
            exact ⟨u1.trans e,Le.trans e' u2⟩
    case s3=>
      rintro c st' ⟨b,m,q,rfl,sb,rfl,p1,p2,p3,p4⟩
      have bz:=sb.size
      dsimp -zeta only
      extract_lets
      rename Unit→_=>jp2
      have J2:∀b,Sx a b lo (lo+nrem)→Dn O key b lo (lo+m)→wpS (model prog w) A E s (jp2 ()) Q (SortSt.mk' κ b pd g none):=by
        intro b sb db
        have bz:=sb.size
        refine wpS_bind (qI ?_)
        have sc:=sb.trans (Sx.rev (a:=b) (i:=lo) (j:=lo+m) (Nat.le_refl lo) (show lo+m≤lo+nrem by exact Nat.add_le_add_left ‹_› _) (by lia))
        have cz:=sc.size
        have ss:=db.flip (by lia)
        revert sc cz ss
        generalize mirror b lo (lo+m) ((lo+m - lo) / 2)=c
        intro sc cz ss
        refine wpS_bind (w6 (O:=O) (key:=key) (a:=c) (lo:=lo) (n0:=m) (nrem:=nrem) (by exact Nat.le_trans (Nat.le_add_left _ _) ‹_›) p2 ss (fun x n R n1 n2 hR=>?_) fun n q1 q2 q3 q4=>?_)
        · refine wpS_bind (iQ C (sc.dom da) (show lo+n < c.size by lia) (show lo+n - 1 < c.size by lia) ?_)
          cases e:O.blt (key (at' c (lo+n))) (key (at' c (lo+n - 1))) with
          | true=>rw [e] at hR;exact wpS_pure hR
          | false=>rw [e] at hR;exact wpS_pure hR
        · exact wpS_pure (h n c (by lia) q2 sc q3)
      clear_value jp2
      refine fq (fun z=>?_) (fun z=>?_)
      · exact wpS_bind (qI (J2 _ (sb.trans (Sx.rev (a:=b) (i:=lo+m - (q+1)) (j:=lo+m) (by lia) (by exact Nat.add_le_add_left ‹_› _) (by lia))) (Dn.rev (hi:=lo+m) (q:=q) p3 p4 (by lia) (by exact Nat.add_lt_add_left ‹_› _))))
      · exact J2 b sb p3
  clear_value jp
  refine fq (fun c=>?_) (fun c=>?_)
  · refine wpS_bind (iQ C da (show lo < a.size by lia) (show lo+n - 1 < a.size by lia) ?_)
    cases e:O.blt (key (at' a lo)) (key (at' a (lo+n - 1))) with
    | true=>exact wpS_pure (h n a q1 q2 .refl q3)
    | false=>
      refine wpS_bind (qI (J _ (Sx.rev (Nat.le_refl _) (by exact Nat.add_le_add_left ‹_› _) (by lia)) fun i j r1 r2 r3=>?_))
      have all:∀x y,lo≤x→x < lo+n→lo≤y→y < lo+n→Le O key (at' a x) (at' a y):=fun x y x1 x2 y1 y2=>
        ((q3.le x1 (by lia) (by lia):Le O key (at' a x) (at' a (lo+n - 1))).trans e).trans (q3.le (Nat.le_refl _) y1 y2)
      rw [fP (by lia),fP (by lia),if_pos (show lo≤i∧i < lo+n by lia)]
      by_cases c':j < lo+n
      · rw [if_pos (by lia)]
        exact all _ _ (by lia) (by lia) (by lia) (by lia)
      · rw [if_neg (by exact fun h=>‹¬_› h.2),show j=lo+n by lia]
        exact (Le.of sn).trans (all _ _ (by lia) (by lia) (by lia) (by lia))
  · refine J a .refl fun i j r1 r2 r3=>?_
    rw [show i=lo+n - 1 by lia,show j=lo+n by lia]
    exact Le.of sn
end
end NhLS
namespace NhLS
set_option autoImplicit false
open PySem PyProof.Rows
def Ch (O:KeyOrd) (key:Keyed→O.α) (a:Array Keyed):List (Nat×Nat×Nat)→Nat→Nat→Prop
  | [],p,e=>p=e
  | t::l,p,e=>t.1=p∧1≤t.2.1∧So O key a p (p+t.2.1)∧Ch O key a l (p+t.2.1) e
section
variable {O:KeyOrd} {key:Keyed→O.α} {a b:Array Keyed}
theorem Ch.app:∀{l l':List (Nat×Nat×Nat)} {p e:Nat},Ch O key a (l++l') p e→∃m,Ch O key a l p m∧Ch O key a l' m e
  | [],_,p,e,h=>⟨p,rfl,h⟩
  | t::l,_,p,e,h=>by
    obtain ⟨m,h1,h2⟩:=Ch.app h.2.2.2
    exact ⟨m,⟨h.1,h.2.1,h.2.2.1,h1⟩,h2⟩
theorem Ch.join:∀{l l':List (Nat×Nat×Nat)} {p m e:Nat},Ch O key a l p m→Ch O key a l' m e→Ch O key a (l++l') p e
  | [],_,p,m,e,h1,h2=>by rw [show p=m from h1];exact h2
  | t::l,_,p,m,e,h1,h2=>⟨h1.1,h1.2.1,h1.2.2.1,Ch.join h1.2.2.2 h2⟩
theorem Ch.le:∀{l:List (Nat×Nat×Nat)} {p e:Nat},Ch O key a l p e→p+l.length≤e
  | [],p,e,h=>by rw [show p=e from h];exact Nat.le_refl _
  | t::l,p,e,h=>by
    have:=Ch.le h.2.2.2
    have:=h.2.1
    rw [List.length_cons]
    lia
theorem Ch.ext:∀{l:List (Nat×Nat×Nat)} {p e:Nat},Ch O key a l p e→(∀j,p≤j→j < e→at' b j=at' a j)→Ch O key b l p e
  | [],p,e,h,_=>h
  | t::l,p,e,h,q=>by
    have:=Ch.le h.2.2.2
    exact ⟨h.1,h.2.1,h.2.2.1.ext fun j h1 h2=>q j h1 (by lia),Ch.ext h.2.2.2 fun j h1 h2=>q j (by exact Nat.le_trans (Nat.le_add_right _ _) ‹_›) h2⟩
theorem Ch.map:∀{l l':List (Nat×Nat×Nat)} {p e:Nat},Ch O key a l p e→l'.map (fun t=>(t.1,t.2.1))=l.map (fun t=>(t.1,t.2.1))→Ch O key a l' p e
  | [],l',p,e,h,q=>by
    cases l' with
    | nil=>exact h
    | cons _ _=>simp at q
  | t::l,l',p,e,h,q=>by
    cases l' with
    | nil=>simp at q
    | cons t' l'=>
      simp only [List.map_cons,List.cons.injEq,Prod.mk.injEq] at q
      refine ⟨q.1.1.trans h.1,by rw [q.1.2];exact h.2.1,by rw [q.1.2];exact h.2.2.1,?_⟩
      rw [q.1.2]
      exact Ch.map h.2.2.2 q.2
theorem we (f:Nat×Nat×Nat→Nat×Nat×Nat) (hf:∀t,(f t).1=t.1∧(f t).2.1=t.2.1) (l:List (Nat×Nat×Nat)) (k:Nat):(l.modify k f).map (fun t=>(t.1,t.2.1))=l.map (fun t=>(t.1,t.2.1)):=by
  refine List.ext_getElem? fun j=>?_
  rw [List.getElem?_map,List.getElem?_map,List.getElem?_modify]
  cases l[j]? with
  | none=>rfl
  | some t=>
    by_cases e:k=j
    · simp [e,hf t]
    · simp [e]
theorem Ch.one {p n w:Nat} (h:So O key a p (p+n)) (h1:1≤n):Ch O key a [(p,n,w)] p (p+n):=⟨rfl,h1,h,rfl⟩
end
section
variable {prog:Program} {w:World} {A:Around} {E:Value→Shared→Prop} {s:Shared} {κ:SortKind} {O:KeyOrd} {key:Keyed→O.α} {dom:Keyed→Prop} {a:Array Keyed} {pd:Array (Nat×Nat×Nat)} {g:Nat}
theorem k8 (C:Cmp prog w A s κ O key dom) {i lo:Nat} {Q:Bool→SortSt→Prop} (da:∀x∈a.toList,dom x) (hi:i+1 < pd.size) (hz:lo≤a.size) (hc:Ch O key a pd.toList 0 lo)
    (h:∀b pd' g',b.toList.Perm a.toList→(∀j,lo≤j→at' b j=at' a j)→Ch O key b pd'.toList 0 lo→pd'.size+1=pd.size→Q true (SortSt.mk' κ b pd' g' none)):wpS (model prog w) A E s (mergeAt' i) Q (SortSt.mk' κ a pd g none):=by
  have el:pd.toList=pd.toList.take i++(pd[i]::pd[i+1]::pd.toList.drop (i+2)):=by
    conv=>lhs;rw [←List.take_append_drop i pd.toList]
    congr 1
    rw [List.drop_eq_getElem_cons (by simp;exact Nat.lt_of_succ_lt ‹_›),List.drop_eq_getElem_cons (by simp;assumption)]
    simp
  have e1:pd[i]? =some pd[i]:=getElem?_pos ..
  have e2:pd[i+1]? =some pd[i+1]:=getElem?_pos ..
  revert el e1 e2
  generalize pd[i]=t1
  generalize pd[i+1]=t2
  intro el e1 e2
  obtain ⟨sa,na,w1⟩:=t1
  obtain ⟨sb,nb,w2⟩:=t2
  have li:(pd.toList.take i).length=i:=by simp;lia
  revert el li
  generalize pd.toList.take i=pre
  generalize pd.toList.drop (i+2)=post
  intro el li
  rw [el] at hc
  obtain ⟨m,c1,c2⟩:=hc.app
  obtain ⟨u1,u2,u3,v1,v2,v3,c3⟩:=c2
  simp only at u1 u2 u3 v1 v2 v3 c3
  subst u1
  subst v1
  have le3:=c3.le
  refine sr C (fun i hi=>da _ (g8 hi)) e1 e2 u2 v2 (by lia) u3 v3 fun b g' pb ob sb=>h b _ g' pb (fun j hj=>ob j (.inr (by lia))) ?_ ?_
  · have:((pd.setIfInBounds i (sa,na+nb,w1)).eraseIdxIfInBounds (i+1)).toList=pre++((sa,na+nb,w1)::post):=by
      have hs:i+1 < (pd.setIfInBounds i (sa,na+nb,w1)).size:=by simpa using hi
      rw [Array.eraseIdxIfInBounds,dif_pos hs,Array.toList_eraseIdx,Array.toList_setIfInBounds,el]
      subst li
      simp [List.eraseIdx_append_of_length_le]
    rw [this]
    refine (c1.ext fun j _ hj=>ob j (.inl hj)).join ⟨rfl,by show 1≤na+nb;exact Nat.lt_add_right _ ‹_›,by rw [←Nat.add_assoc];exact sb,?_⟩
    show Ch O key b post (sa+(na+nb)) lo
    rw [←Nat.add_assoc]
    exact c3.ext fun j hj _=>ob j (.inr hj)
  · have hs:i+1 < (pd.setIfInBounds i (sa,na+nb,w1)).size:=by simpa using hi
    rw [Array.eraseIdxIfInBounds,dif_pos hs,Array.size_eraseIdx]
    simp
    lia
theorem uP {c:Prop} [Decidable c] {x y:Nat} {Q:Bool→SortSt→Prop} {st:SortSt} (h:∀i,i=x∨i=y→wpS (model prog w) A E s (mergeAt' i) Q st):wpS (model prog w) A E s (mergeAt' (if c then x else y)) Q st:=by
  split
  · exact h _ (.inl rfl)
  · exact h _ (.inr rfl)
theorem pk (C:Cmp prog w A s κ O key dom) {Q:Unit→SortSt→Prop} (da:∀x∈a.toList,dom x) (h:∀b pd' g',b.toList.Perm a.toList→So O key b 0 a.size→Q () (SortSt.mk' κ b pd' g' none)):wpS (model prog w) A E s sortRuns' Q (SortSt.mk' κ a #[] g none):=by
  refine wpS_bind (wpS_get ?_)
  refine wpS_bind (wpS_mono (wpS_forRange (I:=fun x c st'=>∃b lo pd g,st'=SortSt.mk' κ b pd g none∧b.toList.Perm a.toList∧c=(none,lo)∧lo≤a.size∧(x≤lo∨lo=a.size)∧Ch O key b pd.toList 0 lo)
    (Q:=fun c st'=>∃b pd g,st'=SortSt.mk' κ b pd g none∧b.toList.Perm a.toList∧c=(none,a.size)∧Ch O key b pd.toList 0 a.size) ?s1 ?s2 ⟨a,0,#[],g,rfl,List.Perm.refl _,rfl,by exact Nat.zero_le _,by (solve_by_elim (maxDepth:=3) only [*,Nat.le_trans,Nat.lt_of_lt_of_le,Nat.lt_of_le_of_lt,Nat.le_of_lt]),rfl⟩) ?s3)
  case s2=>
    rintro c st' ⟨b,lo,pd,g,rfl,p1,rfl,p2,p3,p4⟩
    have:lo=a.size:=by
      rcases p3 with p3 | p3
      · have p3':max 0 a.size≤lo:=p3
        exact Nat.le_antisymm ‹_› ‹_›
      · exact p3
    subst this
    exact ⟨b,pd,g,rfl,p1,rfl,p4⟩
  case s1=>
    rintro x c st' - x2 ⟨b,lo,pd,g,rfl,p1,rfl,p2,p3,p4⟩
    have bz:b.size=a.size:=by have:=p1.length_eq;simpa using this
    refine yw fun R hR=>?_
    have Rd:∀b pd g,b.toList.Perm a.toList→Ch O key b pd.toList 0 a.size→R (.done (none,a.size)) (SortSt.mk' κ b pd g none):=fun b pd g q1 q2=>by rw [hR];exact ⟨b,pd,g,rfl,q1,rfl,q2⟩
    have Ry:∀b lo pd g,b.toList.Perm a.toList→lo≤a.size→(x+1≤lo∨lo=a.size)→Ch O key b pd.toList 0 lo→R (.yield (none,lo)) (SortSt.mk' κ b pd g none):=fun b lo pd g q1 q2 q3 q4=>by rw [hR];exact ⟨b,lo,pd,g,rfl,q1,rfl,q2,q3,q4⟩
    clear hR
    dsimp -zeta only
    extract_lets
    refine fq (fun z=>?_) (fun z=>?_)
    · have:lo=a.size:=by exact Nat.le_antisymm ‹_› ‹_›
      subst this
      exact wpS_pure (Rd b pd g p1 p4)
    have z':lo < a.size:=by exact Nat.lt_of_not_le ‹_›
    refine wpS_bind (pj C (fun x hx=>da x (p1.mem_iff.mp hx)) (lo:=lo) (nrem:=a.size - lo) (by exact Nat.sub_pos_of_lt ‹_›) (by lia) fun n c n1 n2 sc ss=>?_)
    dsimp -zeta only
    extract_lets
    rename Unit→Nat→_=>jp
    have J:∀(n:Nat) (c:Array Keyed),1≤n→n≤a.size - lo→Sx b c lo (lo+(a.size - lo))→So O key c lo (lo+n)→wpS (model prog w) A E s (jp () n) R (SortSt.mk' κ c pd g none):=by
      intro n c n1 n2 sc ss
      have cp:c.toList.Perm a.toList:=sc.perm.trans p1
      have ch:Ch O key c pd.toList 0 lo:=p4.ext fun j _ hj=>sc.out j (.inl hj)
      refine wpS_bind (wpS_get ?_)
      dsimp -zeta only
      extract_lets
      rename Unit→_=>jq
      have K:∀c pd g,c.toList.Perm a.toList→Ch O key c pd.toList 0 lo→So O key c lo (lo+n)→wpS (model prog w) A E s (jq ()) R (SortSt.mk' κ c pd g none):=by
        intro c pd g cp ch ss
        refine wpS_bind (wpS_modify (wpS_pure (Ry c (lo+n) (pd.push (lo,n,0)) g cp (by lia) (by lia) ?_)))
        rw [Array.toList_push]
        exact ch.join (Ch.one ss n1)
      clear_value jq
      cases eb:pd.back? with
      | none=>exact K c pd g cp ch ss
      | some t=>
        dsimp -zeta only
        refine wpS_bind (wpS_mono (wpS_forRange (I:=fun x r st'=>r=(none,())∧∃c pd g,st'=SortSt.mk' κ c pd g none∧c.toList.Perm a.toList∧Ch O key c pd.toList 0 lo∧So O key c lo (lo+n))
          (Q:=fun r st'=>r=(none,())∧∃c pd g,st'=SortSt.mk' κ c pd g none∧c.toList.Perm a.toList∧Ch O key c pd.toList 0 lo∧So O key c lo (lo+n)) ?t1 (fun _ _ q=>q) ⟨rfl,c,pd,g,rfl,cp,ch,ss⟩) ?t3)
        case t3=>
          rintro r st' ⟨rfl,c,pd,g,rfl,cp,ch,ss⟩
          refine wpS_bind (wpS_modify (K c _ g cp (ch.map ?_) ss))
          rw [Array.toList_modify]
          refine we _ ?_ _ _
          exact fun _=>⟨rfl,rfl⟩
        case t1=>
          rintro y r st' - - ⟨rfl,c,pd,g,rfl,cp,ch,ss⟩
          refine wpS_bind (wpS_get ?_)
          dsimp only
          by_cases pz:pd.size > 1
          · rw [if_pos pz,getElem?_pos pd (pd.size - 2) (by lia)]
            refine fq (fun _=>?_) (fun _=>?_)
            · exact wpS_pure ⟨rfl,c,pd,g,rfl,cp,ch,ss⟩
            · have cz:c.size=a.size:=by have:=cp.length_eq;simpa using this
              refine wpS_bind (k8 C (fun x hx=>da x (cp.mem_iff.mp hx)) (i:=pd.size - 2) (lo:=lo) (by lia) (by lia) ch fun d pd' g' dp od dc _=>?_)
              exact wpS_pure ⟨rfl,d,pd',g',rfl,dp.trans cp,dc,ss.ext fun j j1 _=>od j j1⟩
          · rw [if_neg pz]
            exact wpS_pure ⟨rfl,c,pd,g,rfl,cp,ch,ss⟩
    clear_value jp
    refine fq (fun y=>?_) (fun y=>?_)
    · refine wpS_bind (wpS_lift (wpAny_rule ⟨rfl,?_⟩))
      have cz:=sc.size
      refine wpS_bind (mw C (a:=c) (lo:=lo) (n:=min (a.size - lo) (minRun' a.size a.size 0)) (ok:=n) (fun x hx=>da x (p1.mem_iff.mp (sc.perm.mem_iff.mp hx))) n1 (by have y':n < minRun' a.size a.size 0:=y;lia) (by lia) ss fun d sd ds=>?_)
      refine aM (by simp) ?_
      exact J _ d (by have y':n < minRun' a.size a.size 0:=y;lia) (by lia) (sc.trans ⟨sd.perm,fun j hj=>sd.out j (by lia)⟩) ds
    · exact J n c n1 n2 sc ss
  case s3=>
    rintro c st' ⟨b,pd,g,rfl,p1,rfl,p2⟩
    refine wpS_bind (wpS_mono (wpS_forRange (I:=fun x r st'=>r=(none,())∧∃c pd g,st'=SortSt.mk' κ c pd g none∧c.toList.Perm a.toList∧Ch O key c pd.toList 0 a.size∧(pd.size+x≤a.size∨pd.size≤1))
      (Q:=fun r st'=>r=(none,())∧∃c pd g,st'=SortSt.mk' κ c pd g none∧c.toList.Perm a.toList∧Ch O key c pd.toList 0 a.size∧pd.size≤1) ?t1 ?t2 ⟨rfl,b,pd,g,rfl,p1,p2, .inl (by have:=p2.le;simp at this;assumption)⟩) ?t3)
    case t2=>
      rintro r st' ⟨rfl,c,pd,g,rfl,cp,ch,hz⟩
      refine ⟨rfl,c,pd,g,rfl,cp,ch,?_⟩
      rcases hz with hz | hz
      · have hz':pd.size+max 0 a.size≤a.size:=hz
        lia
      · exact hz
    case t1=>
      rintro y r st' - - ⟨rfl,c,pd,g,rfl,cp,ch,hz⟩
      refine wpS_bind (wpS_get ?_)
      refine fq (fun z=>?_) (fun z=>?_)
      · exact wpS_pure ⟨rfl,c,pd,g,rfl,cp,ch,z⟩
      · have z':1 < pd.size:=Nat.lt_of_not_le z
        have cz:c.size=a.size:=by have:=cp.length_eq;simpa using this
        extract_lets
        refine wpS_bind (uP fun i hi=>?_)
        refine k8 C (fun x hx=>da x (cp.mem_iff.mp hx)) (i:=i) (lo:=a.size) ?_ (by exact Nat.le_of_eq (Eq.symm ‹_›)) ch fun d pd' g' dp od dc dz=>?_
        · rcases hi with rfl | rfl
          · show pd.size - 2 - 1+1 < pd.size
            lia
          · show pd.size - 2+1 < pd.size
            lia
        · exact wpS_pure ⟨rfl,d,pd',g',rfl,dp.trans cp,dc,by lia⟩
    case t3=>
      rintro r st' ⟨rfl,c,pd,g,rfl,cp,ch,hz⟩
      refine wpS_pure (h c pd g cp ?_)
      obtain ⟨l⟩:=pd
      match l,hz,ch with
      | [],_,ch=>
        have:0=a.size:=ch
        rw [←this]
        exact fun i j _ _ q=>by lia
      | [t],_,ch=>
        obtain ⟨_,_,s1,e⟩:=ch
        have e':0+t.2.1=a.size:=e
        rw [e'] at s1
        exact s1
      | _::_::_,hz,_=>simp at hz
end
end NhLS
namespace NhSG
set_option autoImplicit false
open PySem PyProof PyProof.Rows PySem.W
abbrev Ky:=Int×List Nat
def pp (hp:Heap):Value→Option Ky
  | .ref a=>(hp.get? a).bind fun o=>match o.data with
    | .seq xs _=>match xs.toList with
      | [.int n _, .str z _]=>some (n,z.cps.toList)
      | _=>none
    | _=>none
  | _=>none
theorem wf {hp:Heap} {a:Addr} {o:Obj} {xs:Array Value} {k:Nat} {n:Int} {t u:Tok} {z:Str} (ho:hp.get? a=some o) (hd:o.data= .seq xs k) (hx:xs.toList=[.int n t, .str z u]):pp hp (.ref a)=some (n,z.cps.toList):=by
  simp [pp,ho,hd,hx]
end NhSG
namespace NhSG
set_option autoImplicit false
open PySem PyProof PyProof.Rows PySem.W
def Keep (h h':Heap):Prop:=∀b o,h.get? b=some o→h'.get? b=some o
theorem Keep.refl (h:Heap):Keep h h:=fun _ _ e=>e
theorem Keep.trans {h h1 h2:Heap} (a:Keep h h1) (b:Keep h1 h2):Keep h h2:=fun c o e=>b c o (a c o e)
def IsKy (hp:Heap) (v:Value) (y:Ky):Prop:=∃c o xs k t z u,v= .ref c∧hp.get? c=some o∧o.cls= .type "tuple"∧o.data= .seq xs k∧xs.toList=[.int y.1 t, .str z u]∧y.2=z.cps.toList
theorem IsKy.keep {h h':Heap} {v:Value} {y:Ky} (a:IsKy h v y) (k:Keep h h'):IsKy h' v y:=by
  obtain ⟨c,o,xs,n,t,z,u,e,ho,r⟩:=a
  exact ⟨c,o,xs,n,t,z,u,e,k c o ho,r⟩
theorem IsKy.key {h:Heap} {v:Value} {y:Ky} (a:IsKy h v y):pp h v=some y:=by
  obtain ⟨c,o,xs,n,t,z,u,rfl,ho,hc,hd,hx,e⟩:=a
  rw [wf ho hd hx,←e]
def KA (hp:Heap):List Value→List Ky→Prop
  | [],[]=>True
  | v::vs,y::ys=>IsKy hp v y∧KA hp vs ys
  | _,_=>False
theorem KA.keep {h h':Heap} (k:Keep h h'):∀{vs:List Value} {ys:List Ky},KA h vs ys→KA h' vs ys
  | [],[],_=>trivial
  | v::vs,y::ys,a=>⟨a.1.keep k,KA.keep k a.2⟩
  | [],_::_,a=>a.elim
  | _::_,[],a=>a.elim
theorem KA.len {h:Heap}:∀{vs:List Value} {ys:List Ky},KA h vs ys→vs.length=ys.length
  | [],[],_=>rfl
  | v::vs,y::ys,a=>by simp [KA.len a.2]
  | [],_::_,a=>a.elim
  | _::_,[],a=>a.elim
theorem KA.snoc {h:Heap} {v:Value} {y:Ky} (b:IsKy h v y):∀{vs:List Value} {ys:List Ky},KA h vs ys→KA h (vs++[v]) (ys++[y])
  | [],[],_=>⟨b,trivial⟩
  | _::_,_::_,a=>⟨a.1,KA.snoc b a.2⟩
  | [],_::_,a=>a.elim
  | _::_,[],a=>a.elim
theorem KA.tups {h:Heap}:∀{vs:List Value} {ys:List Ky},KA h vs ys→∃fs,KatTups h vs fs∧(∀f∈fs,∃n t,f= .int n t)∧fs.length=vs.length
  | [],[],_=>⟨[],trivial,(fun _ z=>by cases z),rfl⟩
  | v::vs,y::ys,a=>by
    obtain ⟨fs,t,hf,hl⟩:=KA.tups a.2
    obtain ⟨c,o,xs,n,tk,z,u,rfl,ho,hc,hd,hx,e⟩:=a.1
    refine ⟨.int y.1 tk::fs,KatTups.cons ho hc hd ?_ t,fun f hm=>?_,by simp [hl]⟩
    · rw [←Array.getElem?_toList,hx]
      rfl
    · rcases List.mem_cons.mp hm with rfl | hm
      · exact ⟨_,_,rfl⟩
      · exact hf f hm
  | [],_::_,a=>a.elim
  | _::_,[],a=>a.elim
theorem KA.at {h:Heap}:∀{ks:List Value} {ys:List Ky} {i:Nat},KA h ks ys→i < ks.length→pp h (ks.getD i Value.none)=some (ys.getD i (0,[]))
  | k::ks,y::ys,0,a,_=>a.1.key
  | k::ks,y::ys,i+1,a,hi=>by
    have:=KA.at (i:=i) a.2 (by simpa using hi)
    simpa using this
  | [],_,_,_,hi=>by simp at hi
  | _::_,[],_,a,_=>a.elim
@[reducible] def A8 (h:Heap) (p:Keyed):Ky:=(pp h p.1).getD (0,[])
theorem KA.zip {h:Heap}:∀{ks:List Value} {ys:List Ky} {vs:List Value},KA h ks ys→(ks.zip vs).map (fun p=>(A8 h p,p.2))=ys.zip vs
  | [],[],_,_=>by simp
  | k::ks,y::ys,[],_=>by simp
  | k::ks,y::ys,v::vs,a=>by
    simp only [List.zip_cons_cons,List.map_cons]
    rw [KA.zip a.2]
    congr 1
    show ((pp h k).getD (0,[]),v)=(y,v)
    rw [a.1.key]
    rfl
  | [],_::_,_,a=>a.elim
  | _::_,[],_,a=>a.elim
theorem KA.dom {h:Heap} {vs:List Value}:∀{ks:List Value} {ys:List Ky},KA h ks ys→∀p∈ks.zip vs,∃y,pp h p.1=some y:=fun {ks ys} a p hp=>by
  have hk:p.1∈ks:=(List.of_mem_zip hp).1
  clear hp
  induction ks generalizing ys with
  | nil=>cases hk
  | cons k ks ih=>cases ys with
    | nil=>exact a.elim
    | cons y ys=>
      rcases List.mem_cons.mp hk with e | hk
      · rw [e];exact ⟨y,a.1.key⟩
      · exact ih a.2 hk
end NhSG
namespace NhSP
set_option autoImplicit false
open PySem PyProof PyProof.Rows PySem.W
abbrev Kp:=List Nat×Int
def fQ (a b:Kp):Bool:=decide (a.1 < b.1)||(decide (a.1=b.1)&&decide (a.2 < b.2))
theorem ip {a b:Kp}:fQ a b=true↔a.1 < b.1∨(a.1=b.1∧a.2 < b.2):=by simp [fQ]
theorem mz {a b:Kp}:fQ a b=false↔¬(a.1 < b.1∨(a.1=b.1∧a.2 < b.2)):=by rw [←ip];simp
def cN (hp:Heap):Value→Kp
  | .ref a=>match hp.get? a with
    | some o=>(match o.data with
      | .seq xs _=>(match xs.toList with
        | [.str z _, .int n _]=>(z.cps.toList,n)
        | _=>([],0))
      | _=>([],0))
    | none=>([],0)
  | _=>([],0)
def IsKp (hp:Heap) (v:Value):Prop:=∃c o xs k t z u n,v= .ref c∧hp.get? c=some o∧o.cls= .type "tuple"∧o.data= .seq xs k∧xs.toList=[.str z t, .int n u]
theorem IsKp.keep {hp h':Heap} {v:Value} (h:IsKp hp v) (k:∀b o,v= .ref b→hp.get? b=some o→h'.get? b=some o):IsKp h' v∧cN h' v=cN hp v:=by
  obtain ⟨c,o,xs,n,t,z,u,i,rfl,ho,r⟩:=h
  have e:=k c o rfl ho
  exact ⟨⟨c,o,xs,n,t,z,u,i,rfl,e,r⟩,by simp only [cN,e,ho]⟩
@[reducible] def ordP:KeyOrd where
  α:=Kp
  blt:=fQ
  irrefl a:=by
    rw [mz]
    rintro (h | h)
    · exact List.lt_irrefl _ h
    · omega
  trans a b c h1 h2:=by
    rw [ip] at *
    rcases h1 with h1 | h1
    · rcases h2 with h2 | h2
      · exact .inl (List.lt_trans h1 h2)
      · exact .inl (h2.1▸h1)
    · rcases h2 with h2 | h2
      · exact .inl (h1.1▸h2)
      · exact .inr ⟨h1.1.trans h2.1,by omega⟩
  negTrans a b c h:=by
    rw [ip] at *
    rw [ip]
    by_cases hab:a.1 < b.1
    · exact .inl (.inl hab)
    · by_cases hbc:b.1 < c.1
      · exact .inr (.inl hbc)
      · have l1:=List.not_lt.mp hab
        have l2:=List.not_lt.mp hbc
        rcases h with h | h
        · exact absurd h (List.not_lt.mpr (List.le_trans l2 l1))
        · have e1:b.1=a.1:=List.le_antisymm l1 (h.1▸l2)
          by_cases hab2:a.2 < b.2
          · exact .inl (.inr ⟨e1.symm,hab2⟩)
          · exact .inr (.inr ⟨e1.trans h.1,by omega⟩)
  total a b h1 h2:=by
    rw [mz] at *
    have e:a.1=b.1:=List.le_antisymm (List.not_lt.mp fun z=>h2 (.inl z)) (List.not_lt.mp fun z=>h1 (.inl z))
    have n1:¬a.2 < b.2:=fun z=>h1 (.inr ⟨e,z⟩)
    have n2:¬b.2 < a.2:=fun z=>h2 (.inr ⟨e.symm,z⟩)
    exact Prod.ext e (by omega)
section
variable {prog:Program} {w:World} {A:Around} {E:Value→Shared→Prop} {s:Shared}
theorem A9:NhLS.Cmp prog w A s (tuples' true) ordP (fun p=>cN s.heap p.1) (fun p=>IsKp s.heap p.1):=by
  constructor
  rintro E ⟨_,x2⟩ ⟨_,y2⟩ Q ⟨ax,ox,xs,kx,tx,zx,ux,nx,rfl,hox,hcx,hdx,hxx⟩ ⟨ay,oy,ys,ky,ty,zy,uy,ny,rfl,hoy,hcy,hdy,hyy⟩ hq
  have kx':cN s.heap (.ref ax)=(zx.cps.toList,nx):=by simp only [cN,hox,hdx,hxx]
  have ky':cN s.heap (.ref ay)=(zy.cps.toList,ny):=by simp only [cN,hoy,hdy,hyy]
  have hq':Q (fQ (zx.cps.toList,nx) (zy.cps.toList,ny)) s:=by rw [←kx',←ky'];exact hq
  refine kat_lt hox hdx hoy hdy ?_
  have fin:decide (xs.size < ys.size)=false:=by
    have l1:xs.size=2:=by rw [←Array.length_toList,hxx];rfl
    have l2:ys.size=2:=by rw [←Array.length_toList,hyy];rfl
    rw [l1,l2]
    rfl
  rw [hxx,hyy,fin]
  show KatLex prog w A true false Q [(.str zx tx, .str zy ty),(.int nx ux, .int ny uy)] 0 s
  refine kat_cons (wpAny_eqBool_str (kat_go (fun e1=>kat_yes (kat_cons (wpAny_eqBool_int (kat_go (fun e2=>kat_yes (kat_nil ?_)) (fun e2=>kat_no ?_))))) (fun e1=>kat_no ?_)))
  · have e1:zx=zy:=by simpa using e1
    have e2:nx=ny:=by simpa using e2
    have z:fQ (zx.cps.toList,nx) (zy.cps.toList,ny)=false:=by
      rw [mz,e1,e2]
      rintro (z | z)
      · exact List.lt_irrefl _ z
      · exact Int.lt_irrefl _ z.2
    rw [←z]
    exact hq'
  · have e1:zx=zy:=by simpa using e1
    show wpAny (model prog w) A (oneLt' false (.int nx ux) (.int ny uy)) Q _ s
    refine kat_one _ _ (PyProof.Rows.lt_int ?_)
    have z:fQ (zx.cps.toList,nx) (zy.cps.toList,ny)=decide (nx < ny):=by
      have ir:decide (zy.cps.toList < zy.cps.toList)=false:=decide_eq_false (List.lt_irrefl _)
      unfold fQ
      rw [e1]
      simp only [ir,Bool.false_or,decide_true,Bool.true_and]
    rw [z] at hq'
    exact hq'
  · have e1:¬zx=zy:=by simpa using e1
    show wpAny (model prog w) A (oneLt' true (.str zx tx) (.str zy ty)) Q _ s
    refine strKind_oneLt prog w A _ s (.str zx tx) (.str zy ty) zx.cps.toList zy.cps.toList rfl rfl ?_
    have ne:¬zx.cps.toList=zy.cps.toList:=fun z=>e1 (by
      cases zx;cases zy
      simp at z
      rw [z])
    have z:fQ (zx.cps.toList,nx) (zy.cps.toList,ny)=decide (zx.cps.toList < zy.cps.toList):=by
      unfold fQ
      simp [ne]
    rw [z] at hq'
    exact hq'
def wg (hp:Heap) (vs:List Value) (out:Array Value):Prop:=out.toList.Perm vs∧out.toList.Pairwise fun x y=>fQ (cN hp y) (cN hp x)=false
variable {a:Addr} {vs:List Value} {n:Nat}
theorem wj {hp:Heap} {b:Array Keyed} (hp':b.toList.Perm (vs.zip vs)) (hs:NhLS.So ordP (fun p=>cN hp p.1) b 0 b.size):wg hp vs (b.map (·.2)):=by
  have same:∀p∈b.toList,p.1=p.2:=fun p hp=>by
    have:=hp'.mem_iff.mp hp
    rw [List.zip_eq_zipWith] at this
    obtain ⟨i,hi,e⟩:=List.mem_iff_getElem.mp this
    simp at e
    rw [←e]
  refine ⟨?_,?_⟩
  · have:=hp'.map (·.2)
    rw [List.map_snd_zip (Nat.le_refl _)] at this
    simpa using this
  · rw [Array.toList_map,List.pairwise_map]
    refine List.pairwise_iff_getElem.mpr fun i j hi hj hij=>?_
    have q:=hs.le (Nat.zero_le _) (Nat.le_of_lt hij) (by simpa using hj)
    have e1:NhLS.at' b i=b.toList[i]:=by simp [NhLS.at',Array.getD,show i < b.size by simpa using hi]
    have e2:NhLS.at' b j=b.toList[j]:=by simp [NhLS.at',Array.getD,show j < b.size by simpa using hj]
    rw [e1,e2] at q
    rw [←same _ (List.getElem_mem hi),←same _ (List.getElem_mem hj)]
    simpa [NhLS.Le,KeyOrd.kle] using q
theorem tups:∀{hp:Heap} {vs:List Value},(∀v∈vs,IsKp hp v)→∃fs,KatTups hp vs fs∧(∀f∈fs,∃z t,f= .str z t)∧fs.length=vs.length
  | hp,[],_=>⟨[],trivial,(fun _ z=>by cases z),rfl⟩
  | hp,v::vs,h=>by
    obtain ⟨fs,t,hf,hl⟩:=tups (hp:=hp) (vs:=vs) fun v hv=>h v (List.mem_cons_of_mem _ hv)
    obtain ⟨c,o,xs,k,tk,z,u,i,rfl,ho,hc,hd,hx⟩:=h v (List.mem_cons_self ..)
    refine ⟨.str z tk::fs,KatTups.cons ho hc hd ?_ t,fun f hm=>?_,by simp [hl]⟩
    · rw [←Array.getElem?_toList,hx]
      rfl
    · rcases List.mem_cons.mp hm with rfl | hm
      · exact ⟨_,_,rfl⟩
      · exact hf f hm
theorem uQ {P:PySem.Fin→Shared→Prop} (ho:s.heap.get? a=some (seqObj "list" vs.toArray n)) (hI:∀v∈vs,IsKp s.heap v) (hn:vs.length < 65536)
    (h:∀h' out c,h'.get? a=some (seqObj "list" out c)→wg s.heap vs out→(∀b o,b≠a→s.heap.get? b=some o→h'.get? b=some o)→P (.done (.ret .none)) {s with heap:=h'}):
    wpAny (model prog w) A (Builtin.«list.sort» ⟨[.ref a],[]⟩) P E s:=by
  have big:∀k,k=vs.length→k≤sizeLine:=fun k e=>by rw [sizeLine_eq];omega
  have k0:=Heap.SameBut.update s.heap a (Obj.mapSeq fun _=>(#[]:Array Value))
  obtain ⟨c0,o0⟩:∃c,(s.heap.update a (Obj.mapSeq fun _=>(#[]:Array Value))).get? a=some (seqObj "list" #[] c):=⟨_,get?_update_seq ho fun _=>#[]⟩
  have o2:=Heap.get?_push_of_some (seqObj "list" (#[]:Array Value) 0) (Heap.get?_push_of_some (seqObj "tuple" vs.toArray 0) o0)
  generalize e3:((s.heap.update a (Obj.mapSeq fun _=>(#[]:Array Value))).push (seqObj "tuple" vs.toArray 0)).push (seqObj "list" #[] 0)=h3 at o2
  have old:∀b o,b≠a→s.heap.get? b=some o→h3.get? b=some o:=fun b o hb q=>by
    rw [←e3]
    exact Heap.get?_push_of_some _ (Heap.get?_push_of_some _ ((k0.2 b hb).trans q))
  have ne:∀v∈vs,v≠ .ref a:=fun v hv z=>by
    obtain ⟨c,o,xs,k,tk,zz,u,i,e,ho',hc,_⟩:=hI v hv
    rw [z] at e
    cases e
    rw [ho] at ho'
    cases ho'
    have e4:Value.type "list"=Value.type "tuple":=hc
    injection e4 with e5
    exact absurd e5 (by decide)
  have I3:∀v∈vs,IsKp h3 v∧cN h3 v=cN s.heap v:=fun v hv=>(hI v hv).keep fun b o e q=>old b o (fun z=>ne v hv (by rw [e,z])) q
  have back:∀arr:Array Keyed,arr.toList.Perm (vs.zip vs)→NhLS.So ordP (fun p=>cN h3 p.1) arr 0 arr.size→P (.done (.ret .none)) {s with heap:=h3.update a (Obj.mapSeq fun _=>arr.map (·.2))}:=fun arr hp hs=>by
    have k1:=Heap.SameBut.update h3 a (Obj.mapSeq fun _=>arr.map (·.2))
    obtain ⟨t1,t2⟩:=wj hp hs
    refine h _ _ _ (get?_update_seq o2 fun _=>arr.map (·.2)) ⟨t1,t2.imp_of_mem fun {x y} hx hy z=>?_⟩ fun b o hb q=>(k1.2 b hb).trans (old b o hb q)
    rw [←(I3 x (t1.mem_iff.mp hx)).2,←(I3 y (t1.mem_iff.mp hy)).2]
    exact z
  rw [list_sort_plain]
  refine wpAny_bind (listItems_at ho rfl (wpAny_bind (listUpdate_at ho rfl ?_ (big _ (by simp)) (Nat.zero_le _))))
  refine wpAny_bind (seqEpoch_at o0 rfl (wpAny_bind (wpAny_newTuple ?_ (big _ (by simp)))))
  refine wpAny_bind (wpAny_newList (wpAny_holding ?_) (Nat.zero_le _))
  dsimp only
  have e3':((s.heap.update a (Obj.mapSeq fun _=>(#[]:Array Value))).push {cls:= .type "tuple",data:= .seq vs.toArray}).push {cls:= .type "list",data:= .seq (List.toArray [])}=h3:=e3
  rw [e3']
  by_cases many:2≤vs.length
  · rw [if_neg (by simpa using many),if_neg (by simpa using many)]
    obtain ⟨fs,tt,hf,lf⟩:=tups fun v hv=>(I3 v hv).1
    refine wpAny_bind (kat_kind (T:= .type "str") tt (by omega) (fun v hv=>?_) (by decide) ?_)
    · obtain ⟨n,t,rfl⟩:=hf v hv
      exact .now
    refine (wpAny_bind (wpAny_mono (NhLS.pk (E:=E) (a:=vs.toArray.zip vs.toArray) (g:=7) (A9 (prog:=prog) (w:=w) (A:=A) (s:={s with heap:=h3}))
      (Q:=fun _ st=>∃b pd g,st=SortSt.mk' (tuples' true) b pd g none∧b.toList.Perm (vs.zip vs)∧NhLS.So ordP (fun p=>cN h3 p.1) b 0 b.size) (fun p hp=>(I3 p.1 (by have:=List.of_mem_zip (a:=p.1) (b:=p.2) (by simpa using hp);exact this.1)).1)
      fun b pd g hp hs=>⟨b,pd,g,rfl,by simpa using hp,by have:=hp.length_eq;simp only [Array.length_toList] at this;rw [this];exact hs⟩) ?_ fun _ _ e=>e))
    rintro ⟨⟨⟩,st⟩ s' ⟨rfl,b,pd,g,e,hp,hs⟩
    dsimp only at e
    subst e
    have hz:b.size=vs.length:=by have:=hp.length_eq;simpa using this
    dsimp only
    refine wpAny_bind (seqEpoch_at o2 rfl (wpAny_bind (listUpdate_at o2 rfl ?_ (Nat.zero_le _) (by have:=big _ hz;show (b.map _).size≤_;rw [Array.size_map];omega))))
    rw [if_neg (by simp)]
    exact wpAny_pure (back b hp hs)
  · rw [if_pos (by simp;omega),if_pos (by simp;omega)]
    refine wpAny_bind (wpAny_pure ?_)
    rw [StateT.run_pure]
    refine wpAny_bind (wpAny_pure ?_)
    dsimp only
    refine wpAny_bind (seqEpoch_at o2 rfl (wpAny_bind (listUpdate_at o2 rfl ?_ (Nat.zero_le _) (by show ((vs.toArray.zip vs.toArray).map _).size≤_;rw [sizeLine_eq];simp;omega))))
    rw [if_neg (by simp)]
    refine wpAny_pure (back (vs.toArray.zip vs.toArray) (by simp) fun i j _ hij hj=>?_)
    simp at hj
    omega
theorem i7 {v:Value} {Q:Value→Shared→Prop}
    (hc:∀(E:Value→Shared→Prop) (R:List Value→Shared→Prop),(∀h1 tk vs,NhSG.Keep s.heap h1→vs.length < 65536→(∀v∈vs,IsKp h1 v)→(∀h' out c l,h1.get? l=none→h'.get? l=some (seqObj "list" out c)→wg h1 vs out→NhSG.Keep h1 h'→Q (.ref l) {s with heap:=h',toks:=tk})→R vs {s with heap:=h1,toks:=tk})→wpAny (model prog w) A.in1 (collect v) R E s):
    wpAny (model prog w) A (call (.builtin "sorted") [v]) Q E s:=by
  refine Calls.call_function_entry kind_sorted plain_sorted entry_sorted (args_sorted1 _) ?_
  unfold Builtin.«sorted»
  refine wpAny_bind (m:=checkCount "sorted" 1 1 _) (wpAny_pure (wpAny_bind (hc _ _ fun h1 tk vs k1 hn hI q=>wpAny_bind (wpAny_newList ?_ (by rw [sizeLine_eq];omega)))))
  have k9:=Heap.get?_push_size h1 (o:=seqObj "list" vs.toArray 0) rfl
  have old:NhSG.Keep h1 (h1.push (seqObj "list" vs.toArray 0)):=fun b o e=>Heap.get?_push_of_some _ e
  refine wpAny_bind (wpAny_holding (wpAny_call_entry slot_list_sort ⟨_,k9,rfl⟩ entry_list_sort (uQ (s:={s with heap:=h1.push (seqObj "list" vs.toArray 0),toks:=tk}) k9 (fun v hv=>((hI v hv).keep fun b o _ e=>old b o e).1) hn fun h' out c q1 q2 q3=>⟨_,rfl,wpAny_pure ⟨_,rfl,?_⟩⟩) (args_list_sort _)))
  refine q h' out c h1.objs.size (Heap.get?_none_of_le (Nat.le_refl _)) q1 ⟨q2.1,q2.2.imp_of_mem fun {x y} hx hy z=>?_⟩ fun b o e=>q3 b o (Nat.ne_of_lt (Heap.lt_size e)) (old b o e)
  rw [←((hI x (q2.1.mem_iff.mp hx)).keep fun b o _ e=>old b o e).2,←((hI y (q2.1.mem_iff.mp hy)).keep fun b o _ e=>old b o e).2]
  exact z
theorem nP {l:Addr} {Q:Value→Shared→Prop} (hl:s.heap.IsList l vs.toArray) (hn:vs.length < 65536) (hI:∀v∈vs,IsKp s.heap v)
    (h:∀h' out c l,s.heap.get? l=none→h'.get? l=some (seqObj "list" out c)→wg s.heap vs out→NhSG.Keep s.heap h'→Q (.ref l) {s with heap:=h'}):
    wpAny (model prog w) A (call (.builtin "sorted") [.ref l]) Q E s:=by
  refine i7 fun E R k=>collect_list hl ?_ (by rw [sizeLine_eq];omega)
  have k0:=Heap.SameBut.update (s.heap.push (seqObj "list" #[] 0)) s.heap.objs.size (Obj.mapSeq (· ++vs.toArray))
  have old:NhSG.Keep s.heap ((s.heap.push (seqObj "list" #[] 0)).update s.heap.objs.size (Obj.mapSeq (· ++vs.toArray))):=fun b o q=>(k0.2 b (Nat.ne_of_lt (Heap.lt_size q))).trans (Heap.get?_push_of_some _ q)
  refine k _ s.toks vs old hn (fun v hv=>((hI v hv).keep fun b o _ e=>old b o e).1) fun h' out c l hz q1 q2 q3=>h h' out c l (by
    cases z:s.heap.get? l with
    | none=>rfl
    | some o=>rw [old l o z] at hz;cases hz) q1 ⟨q2.1,q2.2.imp_of_mem fun {x y} hx hy z=>?_⟩ fun b o e=>q3 b o (old b o e)
  rw [←((hI x (q2.1.mem_iff.mp hx)).keep fun b o _ e=>old b o e).2,←((hI y (q2.1.mem_iff.mp hy)).keep fun b o _ e=>old b o e).2]
  exact z
end
end NhSP
namespace L2
open PySem PySem.Spec PyProof.Rows
theorem w_ {P:Program} {w:World} {k:bu} {u:Value} (h:(aP P w).is k u=true):RelV (kV k) u:=by
  rcases bo (show jt k u=true from h) with ⟨i,t,rfl,rfl⟩ | ⟨x,t,rfl,rfl⟩
  · exact ⟨t,rfl⟩
  · exact ⟨t,rfl⟩
theorem xa {us:List (bu×V)} {vs:List (bu×Value)} (r:KV us vs) {i:Nat} {k:bu} {x:V} (h:us[i]? =some (k,x)):∃u,vs[i]? =some (k,u)∧RelV x u:=by
  induction r generalizing i with
  | nil=>cases h
  | @cons p q us vs a _ ih=>
    cases i with
    | zero=>cases h;exact ⟨q.2,congrArg some (Prod.ext a.1.symm rfl),a.2⟩
    | succ i=>exact ih h
def zW (d:Addr) (o:Obj) (us:List (bu×V)):It:=
  ⟨fun i H=>H d=some (.frz o (.dK us))∧i < us.length,fun i H x H'=>∃T k u,H T=none∧us[i]? =some (k,u)∧x= .ref T∧H'=upd H T (.tup [kV k,u]),fun i H=>H d=some (.frz o (.dK us))∧i=us.length⟩
theorem j5 {P:Program} {w:World} {H:Hp} {h:Heap} {d:Addr} {o:Obj} {us:List (bu×V)} {es:Array DictEntry} {ep:Nat} (ok:HOk P w H h) (e:H d=some (.frz o (.dK us))) (ho:o.data= .dict es ep):∃vs,KV us vs∧Heap.DictAt (aP P w) h d vs ep:=by
  obtain ⟨h1,z,y,vs,r,o',es',ep',e1,c,e2,c2⟩:=(show ObjOk P w H h d (.frz o (.dK us)) from ok d _ e)
  rw [h1] at e1
  cases e1
  rw [ho] at e2
  cases e2
  exact ⟨vs,r,o,es,h1,c,ho,c2⟩
theorem jf:entryFor table "dict_itemiterator.__iter__"=some Builtin.«dict_keyiterator.__iter__»:=
  entryFor_alias (id':="dict_keyiterator.__iter__") (by kernel_rfl) (by first | rfl | decide+kernel | (unfold String.splitOn;simp+decide [String.splitOnAux])) (by decide+kernel) (by kernel_rfl)
theorem su {prog:Program} {w:World} {A:Around} {E:Value→Shared→Prop} {s:Shared} {it:Addr} {Q:Value→Shared→Prop} (ty:s.TypeIs (.ref it) "dict_itemiterator") (h:Q (.ref it) s):wpAny (model prog w) A (pyIter (.ref it)) Q E s:=by
  refine wpAny_pyIter_slot ty F.slot_dict_itemiterator_iter (wpAny_call_entry F.slot_dict_itemiterator_iter ty jf ?_ (F.args_dict_itemiterator_iter_1 _))
  show wpAny _ _ (ret (.ref it)) _ _ s
  exact wpAny_pure ⟨_,rfl,"dict_itemiterator",_,ty,F.slot_dict_itemiterator_next.lookup,h⟩
theorem pq {P:Program} {w:World} {K:PySem.W.Frag} {elts:List Expr} {k:Nat} {pos:Pos} {it d:Addr} {o:Obj} {us:List (bu×V)} {es:Array DictEntry} {ep:Nat} (ho:o.data= .dict es ep):Turn P w K (.Tuple elts k pos) (zW d o us) [it] it
    (fun i h=>∃ok ov,IsItemIter h it d i us.length ep ok ov) where
  mem:=by simp
  obj:=fun i h st c hc=>by
    obtain ⟨ok,ov,h1⟩:=st
    rw [List.mem_singleton.mp hc]
    exact ⟨_,h1,fun v z=>by cases z⟩
  keep:=fun i h h' st kk=>by
    obtain ⟨ok,ov,h1⟩:=st
    exact ⟨ok,ov,kk it (by simp) _ h1⟩
  item:=by
    intro X hP hw hK hc i pins s σ H E I hf st hg
    subst hP hw hK
    obtain ⟨ok,ov,h1⟩:=st
    obtain ⟨q1,l1⟩:=hg
    obtain ⟨vs,rv,dd⟩:=j5 I.hok q1 ho
    obtain ⟨⟨ky,x⟩,hx⟩:∃p,us[i]? =some p:=⟨us[i],List.getElem?_eq_getElem l1⟩
    obtain ⟨u,hu,ru⟩:=xa rv hx
    rw [rv.length] at h1
    refine wpAny_pyNext_items_item h1 dd hu fun key h' hk a1 a5 a6 hkp=>?_
    have I0:=um (t':=s.toks) I (us:=[key,u]) (vs:=[kV ky,x]) (.cons (w_ hk) (.cons ru .nil)) (by show 2≤sizeLine;decide)
    have hT:it≠s.heap.objs.size:=fun ZE=>by
      have:=Heap.lt_size h1
      rw [ZE] at this;exact Nat.lt_irrefl _ this
    have hf2:∀c∈[it],kb X pins (upd H s.heap.objs.size (.tup [kV ky,x])) c:=fun c hc=>by
      obtain ⟨f0,f⟩:=hf c hc
      rw [List.mem_singleton.mp hc] at f0 f ⊢
      exact ⟨by rw [ao hT];exact f0,f⟩
    have I1:=I0.turnedL (h':=h') (t':=s.toks) (fp:=[it]) (fun c o hc q=>by
      by_cases ec:c=s.heap.objs.size
      · subst ec
        rw [Heap.get?_push_size _ rfl] at q
        cases q
        exact a5
      · exact hkp c o (fun z=>hc (by simp [z])) (o4 ec q)) hf2
    refine ⟨_,rfl,wpAny_letOwnedTupleGo_items (s:={s with heap:=h'}) a1 fun h'' z'' s''=>?_⟩
    have I2:=I1.turnedL (h':=h'') (t':=s.toks) (fp:=[it]) (fun c o hc q=>(s''.2 c fun e'=>hc (by simp [e'])).trans q) hf2
    exact ⟨.ref s.heap.objs.size,_,I2,rfl,⟨_,ky,x,I.hok.fresh (Nat.le_refl _),hx,rfl,rfl⟩,⟨_,_,by rw [rv.length];exact z''⟩,fun c hc=>(hf2 c hc).1⟩
  done:=by
    intro X hP hw hK hc i pins s σ H E I hf st hg
    subst hP hw hK
    obtain ⟨ok,ov,h1⟩:=st
    obtain ⟨q1,hi⟩:=hg
    obtain ⟨vs,rv,dd⟩:=j5 I.hok q1 ho
    rw [rv.length] at h1
    refine wpAny_pyNext_items_end (I.ok.hd hc) h1 dd (List.getElem?_eq_none (by rw [←rv.length];omega)) fun h' hk=>⟨rfl,I.turnedL (t':=s.toks) (fp:=[it]) (fun c o hc q=>hk c o (fun z=>hc (by simp [z])) q) hf⟩
  self:=fun _ _ _ _ _ st h=>by
    obtain ⟨ok,ov,h1⟩:=st
    exact su ⟨_,h1,rfl⟩ h
def zX (to:TE):TI:=fun σ H R=>to σ H fun x H1=>∃d ob us es ep,x= .ref d∧H1 d=some (.frz ob (.dK us))∧ob.data= .dict es ep∧R (zW d ob us) H1
theorem uR {X:Cx} {elts:List Expr} {kt:Nat} {pt apos cpos:Pos} {o:Expr} {to:TE} (ho:PE X o to) (hbase:attributeBase o "items" X.env (eval o X.env)=eval o X.env:=by rfl) (hline:(apos.endLine == cpos.line)=true:=by rfl):PI X (.Tuple elts kt pt) (.Call (.Attribute o "items" apos) [] [] cpos) (zX to):=by
  intro pins s σ H R I h
  refine wpAny_Call_method0_late hbase hline (bQ (ho pins s σ H _ I h) fun v s1 ⟨x,H1,I1,r1,q1⟩=>?_)
  obtain ⟨d,ob,us,es,ep,rfl,hd,he,q⟩:=q1
  cases (show v=Value.ref d from r1)
  obtain ⟨g1,z,y,vs,rv,o',es',ep',e1,c,e2,c2⟩:=(show ObjOk X.prog X.w H1 s1.heap d (.frz ob (.dK us)) from I1.hok d _ hd)
  have ty:s1.TypeIs (.ref d) "dict":=⟨o',e1,c.1⟩
  refine ⟨"dict","dict.items",PySem.F.plainAttrs_dict,PySem.F.slot_dict_items,PySem.F.type_dict_items,ty,fun a ea=>?_,Calls.callWith_builtin rfl (PySem.evalArgs_none ?_)⟩
  · cases ea
    exact ⟨o',e1,c.2.1⟩
  refine call_meetsIn PySem.F.slot_dict_items ty PySem.F.entry_dict_items (PySem.F.args_dict_items_1 _) (meets_dict_items (aP X.prog X.w) d y) ⟨⟨vs,o',es',ep',e1,c,e2,c2⟩,?_⟩
  have I2:Inv X pins σ H1 {s1 with heap:=s1.heap.push {cls:= .type "dict_items",data:= .fields #[.ref d]}}:=I1.kept (t':=s1.toks) fun b o e=>Heap.get?_push_of_some _ e
  obtain ⟨vs2,rv2,dd⟩:=j5 I2.hok hd he
  have L:=rv2.length
  refine wpAny_pyIter_items (s:={s1 with heap:=s1.heap.push {cls:= .type "dict_items",data:= .fields #[.ref d]}}) ⟨_,Heap.get?_push_size _ rfl,rfl,rfl⟩ dd ?_
  refine ⟨_,[_],_,_,H1,rfl,I2.kept (t':=s1.toks) (fun b o e=>Heap.get?_push_of_some _ e),pq he,⟨_,_,by rw [L];exact Heap.get?_push_size _ rfl⟩,fun c hc=>?_,q⟩
  rw [List.mem_singleton.mp hc]
  exact I2.fpOk (Nat.le_refl _) (I2.hok.fresh (Nat.le_refl _))
section
variable {X:Cx} {pins:List (Addr×Obj)} {σ:St} {H:Hp} {s:Shared} {d:Addr} {o:Obj} {us:List (bu×V)}
theorem nQ {u u':HO} (I:Inv X pins σ H s) (e:H d=some u) (hu:(∀xs,u≠ .tup xs)∧∀b,u≠ .own b) (hf:∀o v,X.H₀ d=some (.frz o v)→u'= .frz o v) (ht:∀ps,u≠ .tbl ps) (ok:ObjOk X.prog X.w (upd H d u') s.heap d u'):Inv X pins σ (upd H d u') s:=by
  have ne:∀b,H b=none→b≠d:=fun b n z=>by rw [z,e] at n;cases n
  refine ⟨I.ok,I.os,I.bare,⟨I.base.keep,I.base.slot,fun b w' q n hx=>?_,I.base.there,fun b xs q=>?_,fun b w' v q=>?_,fun b ps q=>?_⟩,I.loc,I.cell,?_,fun x c q=>?_,fun p q=>?_,fun b w' q=>?_,I.len⟩
  · have z:=I.base.free b w' q n hx
    rw [ao (ne b z)];exact z
  · have z:=I.base.tups b xs q
    rw [ao (fun y=>by rw [y,e] at z;cases z;exact hu.1 _ rfl)];exact z
  · by_cases hb:b=d
    · subst hb;rw [upd_same,hf _ _ q]
    · rw [ao hb];exact I.base.frzs b w' v q
  · have z:=I.base.tbls b ps q
    rw [ao (fun y=>by rw [y,e] at z;cases z;exact ht _ rfl)];exact z
  · rw [ao (ne _ I.free)];exact I.free
  · rw [ao (ne _ (I.freeC x c q))];exact I.freeC x c q
  · obtain ⟨e1,e2,e3⟩:=I.pin p q
    exact ⟨e1,by rw [ao (ne _ e2)];exact e2,e3⟩
  · by_cases hb:b=d
    · subst hb;rw [upd_same] at q;cases q;exact ok
    · rw [ao hb] at q
      refine (I.hok b w' q).stay (fun c w' _ q=>q) (fun c q=>?_) fun c xs q=>?_
      · rw [ao (fun y=>by rw [y,e] at q;cases q;exact hu.2 _ rfl)];exact q
      · rw [ao (fun y=>by rw [y,e] at q;cases q;exact hu.1 _ rfl)];exact q
theorem pA (I:Inv X pins σ H s) (e:H d=some (.dK us)):∃o es ep,o.data= .dict es ep∧Inv X pins σ (upd H d (.frz o (.dK us))) s:=by
  obtain ⟨z,y,vs,r,o,es,ep,e1,c,e2,c2⟩:=(show ObjOk X.prog X.w H s.heap d (.dK us) from I.hok d _ e)
  refine ⟨o,es,ep,e2,nQ I e ⟨fun _ z=>(nomatch z),fun _ z=>(nomatch z)⟩ (fun o' v q=>?_) (fun _ z=>(nomatch z)) ⟨e1,z,y,vs,r,o,es,ep,e1,c,e2,c2⟩⟩
  have q':=I.base.frzs d _ _ q
  rw [e] at q'
  cases q'
theorem uS (I:Inv X pins σ H s) (e:H d=some (.frz o (.dK us))) (h0:∀o v,X.H₀ d≠some (.frz o v)):Inv X pins σ (upd H d (.dK us)) s:=
  nQ I e ⟨fun _ z=>(nomatch z),fun _ z=>(nomatch z)⟩ (fun o' v q=>absurd q (h0 _ _)) (fun _ z=>(nomatch z)) (show ObjOk X.prog X.w (upd H d (.dK us)) s.heap d (.dK us) from (show ObjOk X.prog X.w H s.heap d (.frz o (.dK us)) from I.hok d _ e).2)
end
end L2
namespace L2
open PySem PySem.Spec PyProof.Rows
def xb (H N:Hp):Hp:=fun b=>match N b with
  | some o=>some o
  | none=>H b
theorem j6 {H N:Hp} {b:Addr} {o:HO} (h:N b=some o):xb H N b=some o:=by unfold xb;rw [h]
theorem gG {H N:Hp} {b:Addr} (h:N b=none):xb H N b=H b:=by unfold xb;rw [h]
theorem gq {P:Program} {w:World} {H:Hp} {h:Heap} {a:Addr} {o:HO} (x:ObjOk P w H h a o):∃ob,h.get? a=some ob:=by
  cases o with
  | lst xs=>obtain ⟨_,_,_,_,e⟩:=x;exact ⟨_,e⟩
  | tup xs=>obtain ⟨_,_,_,o,e,_⟩:=x;exact ⟨_,e⟩
  | dK kvs=>obtain ⟨_,_,_,_,o,_,_,e,_⟩:=x;exact ⟨_,e⟩
  | dT kvs=>obtain ⟨_,_,_,_,o,_,_,e,_⟩:=x;exact ⟨_,e⟩
  | set S n=>obtain ⟨o,_,_,_,e,_⟩:=x;exact ⟨_,e⟩
  | ins C dx fs=>obtain ⟨_,_,_,e,_⟩:=x;exact ⟨_,e⟩
  | own y=>exact x
  | xd fs=>obtain ⟨_,⟨_,_,_,e,_⟩,_⟩:=x;exact ⟨_,e⟩
  | rng lo hi=>obtain ⟨_,_,_,e⟩:=x;exact ⟨_,e⟩
  | frz ob u=>obtain ⟨e,_⟩:=x;exact ⟨_,e⟩
  | tbl q=>obtain ⟨_,e,_⟩:=x;exact ⟨_,e⟩
  | met f y=>exact ⟨_,(show h.get? a=some _ from x)⟩
  | ext φ=>obtain ⟨_,e,_⟩:=x;exact e
section
variable {X:Cx} {pins:List (Addr×Obj)} {σ:St} {H N:Hp} {s:Shared} {h':Heap}
theorem Inv.laidAll {t':Nat} (I:Inv X pins σ H s) (k:∀b u,s.heap.get? b=some u→h'.get? b=some u) (hp:∀b o,N b=some o→s.heap.get? b=none) (new:∀b o,N b=some o→ObjOk X.prog X.w (xb H N) h' b o):Inv X pins σ (xb H N) {s with heap:=h',toks:=t'}:=by
  have old:∀b o,H b=some o→N b=none:=fun b o e=>by
    cases q:N b with
    | none=>rfl
    | some u=>
      obtain ⟨ob,z⟩:=gq (I.hok b o e)
      rw [hp b u q] at z
      cases z
  have same:∀b o,H b=some o→xb H N b=some o:=fun b o e=>(gG (old b o e)).trans e
  refine I.un ⟨fun b u q _ _ _=>k b u q,fun b u q _ _ _=>⟨u.slots,k b u q⟩,fun b u q n _=>?_,fun b u q _=>⟨u,k b u q⟩,fun b xs q=>same b _ q,fun b u xs q=>same b _ q,fun b ps q=>same b _ q⟩ fun b u e=>?_
  · cases z:N b with
    | none=>rw [gG z];exact n
    | some o=>rw [hp b o z] at q;cases q
  · cases z:N b with
    | none=>
      rw [gG z] at e
      exact (I.hok b u e).stay (fun c v _ q=>k c v q) (fun c q=>same c _ q) fun c xs q=>same c _ q
    | some o=>
      rw [j6 z] at e
      cases e
      exact new b _ z
theorem Inv.laid1 {t':Nat} {a:Addr} {o:HO} (I:Inv X pins σ H s) (k:∀b u,s.heap.get? b=some u→h'.get? b=some u) (hp:s.heap.get? a=none) (new:ObjOk X.prog X.w (upd H a o) h' a o):H a=none∧Inv X pins σ (upd H a o) {s with heap:=h',toks:=t'}:=by
  have e:xb H (fun b=>if b=a then some o else none)=upd H a o:=by
    funext b
    by_cases h:b=a
    · rw [j6 (if_pos h),h,upd_same]
    · rw [gG (if_neg h),ao h]
  refine ⟨?_,?_⟩
  · cases q:H a with
    | none=>rfl
    | some u=>
      obtain ⟨ob,z⟩:=gq (I.hok a u q)
      rw [hp] at z
      cases z
  · rw [←e]
    refine I.laidAll k (fun b u q=>?_) fun b u q=>?_
    · by_cases h:b=a
      · rw [h];exact hp
      · rw [if_neg h] at q;cases q
    · by_cases h:b=a
      · subst h;rw [if_pos rfl] at q;cases q;rw [e];exact new
      · rw [if_neg h] at q;cases q
end
end L2
namespace PL
open PySem L2 Nh PyProof.Rows
abbrev Kp:=List Nat×Int
def sv (x:Kp):List V:=[.str ⟨x.1.toArray⟩, .int x.2]
def dN (kvs:List Kp):List (bu×V):=kvs.map fun p=>(Sum.inr ⟨p.1.toArray⟩,V.int p.2)
def oD (a b:Kp):Bool:= !NhSP.fQ b a
def cU (L:List Kp):List Kp:=L.mergeSort oD
theorem k_ (a b c:Kp) (h:oD a b=true) (k:oD b c=true):oD a c=true:=by
  simp only [oD,Bool.not_eq_true'] at *
  cases e:NhSP.fQ c a with
  | false=>rfl
  | true=>
    rcases NhSP.ordP.negTrans c b a e with z | z
    · rw [show NhSP.fQ c b=true from z] at k
      cases k
    · rw [show NhSP.fQ b a=true from z] at h
      cases h
theorem la (a b:Kp):(oD a b||oD b a)=true:=by
  simp only [oD,Bool.or_eq_true,Bool.not_eq_true']
  cases e:NhSP.fQ b a with
  | false=>exact .inl rfl
  | true=>
    refine .inr ?_
    cases e2:NhSP.fQ a b with
    | false=>rfl
    | true=>
      have:=NhSP.ordP.trans a b a e2 e
      have z:=NhSP.ordP.irrefl a
      rw [this] at z
      cases z
theorem j7 {a b:List Kp} (p:a.Perm b) (h:a.Pairwise fun x y=>NhSP.fQ y x=false):a=cU b:=
  List.Perm.eq_of_pairwise (le:=fun x y=>oD x y=true) (fun a b _ _ h k=>by
    simp only [oD,Bool.not_eq_true'] at h k
    exact NhSP.ordP.total a b k h) (h.imp fun h=>by simpa [oD] using h) (List.pairwise_mergeSort k_ la b) (p.trans (List.mergeSort_perm b oD).symm)
theorem pB {a b:List Kp} (p:a.Perm b):cU a=cU b:=by
  refine j7 ((List.mergeSort_perm a oD).trans p) ?_
  exact (List.pairwise_mergeSort k_ la a).imp fun h=>by simpa [oD] using h
theorem nR {α β:Type} {f:α→β} {l m:List β} (h:l.Perm m):∀cs:List α,m=cs.map f→∃cs':List α,cs'.Perm cs∧l=cs'.map f:=by
  induction h with
  | nil=>
    intro cs e
    exact ⟨[],by rw [List.map_eq_nil_iff.mp e.symm],rfl⟩
  | cons x h ih=>
    intro cs e
    cases cs with
    | nil=>cases e
    | cons c cs=>
      simp only [List.map_cons,List.cons.injEq] at e
      obtain ⟨cs',p,e2⟩:=ih cs e.2
      exact ⟨c::cs',p.cons c,by rw [List.map_cons,e2,e.1]⟩
  | swap x y l=>
    intro cs e
    cases cs with
    | nil=>cases e
    | cons c cs=>
      cases cs with
      | nil=>cases e
      | cons d cs=>
        simp only [List.map_cons,List.cons.injEq] at e
        exact ⟨d::c::cs,List.Perm.swap ..,by rw [List.map_cons,List.map_cons,←e.1,←e.2.1,←e.2.2]⟩
  | trans h1 h2 i1 i2=>
    intro cs e
    obtain ⟨c2,p2,e2⟩:=i2 cs e
    obtain ⟨c1,p1,e1⟩:=i1 c2 e2
    exact ⟨c1,p1.trans p2,e1⟩
abbrev Ca:=List (Addr×Kp)
def g9 (cs:Ca):List V:=cs.map fun x=>V.ref x.1
theorem pD:∀(cs:Ca),Vals (g9 cs) (cs.map fun x=>Value.ref x.1)
  | []=> .nil
  | c::cs=> .cons rfl (pD cs)
theorem uT:∀{cs:Ca} {us:List Value},Vals (g9 cs) us→us=cs.map fun x=>Value.ref x.1
  | [],_, .nil=>rfl
  | c::cs,_, .cons h t=>by cases h;rw [uT t];rfl
theorem xc {hp:Heap} {c:Addr} {x:Kp} {its:List Value} (r:Vals (sv x) its) (h:IsTup hp c its.toArray):NhSP.IsKp hp (.ref c)∧NhSP.cN hp (.ref c)=x:=by
  obtain ⟨o,ho,hc,n,hd⟩:=h
  cases r with
  | cons a r=>
    cases r with
    | cons b r=>
      cases r
      obtain ⟨t,rfl⟩:=a
      obtain ⟨u,rfl⟩:=b
      exact ⟨⟨c,o,_,n,t,⟨x.1.toArray⟩,u,x.2,rfl,ho,hc,hd,rfl⟩,by simp only [NhSP.cN,ho,hd]⟩
theorem uU {cs cs':Ca} {hp:Heap} {out:Array Value} (p':cs'.Perm cs) (e':out.toList=cs'.map fun x=>Value.ref x.1) (at_:∀x∈cs,NhSP.cN hp (.ref x.1)=x.2) (t2:out.toList.Pairwise fun x y=>NhSP.fQ (NhSP.cN hp y) (NhSP.cN hp x)=false):cs'.map (·.2)=cU (cs.map (·.2)):=by
  refine j7 (p'.map _) ?_
  rw [e',List.pairwise_map] at t2
  rw [List.pairwise_map]
  exact t2.imp_of_mem fun {x y} hx hy z=>by rw [at_ x (p'.mem_iff.mp hx),at_ y (p'.mem_iff.mp hy)] at z;exact z
section
variable {X:Cx}
theorem mB:CallR X (.builtin "sorted") (fun xs H Q=>∃(p:Addr) (cs:Ca),xs=[.ref p]∧SqL X.K H p (g9 cs)∧(∀x∈cs,SqT X.K H x.1 (sv x.2))∧cs.length < 65536∧
    ∀l cs',H l=none→cs'.Perm cs→cs'.map (·.2)=cU (cs.map (·.2))→Q (.ref l) (upd H l (.lst (g9 cs')))):=by
  intro pins s σ H xs us Q I r h
  obtain ⟨p,cs,rfl,hq,hc,hn,q⟩:=h
  cases r with
  | cons r rr=>
    cases rr
    cases r
    obtain ⟨its,rv,pl,hz⟩:=I.list hq
    have:=uT rv
    subst this
    have at_:∀x∈cs,NhSP.IsKp s.heap (.ref x.1)∧NhSP.cN s.heap (.ref x.1)=x.2:=fun x hx=>by
      obtain ⟨its,r,h,z⟩:=I.tuple (hc x hx)
      exact xc r h
    refine NhSP.nP pl.isList (by simpa using hn) (fun v hv=>?_) fun h' out e l hl he ⟨t1,t2⟩ hk=>?_
    · obtain ⟨x,hx,rfl⟩:=List.mem_map.mp hv
      exact (at_ x hx).1
    obtain ⟨cs',p',e'⟩:=nR t1 cs rfl
    have srt:=uU p' e' (fun x hx=>(at_ x hx).2) t2
    have I2:=I.laid1 (t':=s.toks) hk hl (show ObjOk X.prog X.w (upd H l (.lst (g9 cs'))) h' l (.lst (g9 cs')) from ⟨by
      show (List.map _ cs').length≤_
      rw [List.length_map,p'.length_eq]
      exact dw (by omega),out.toList,e,by rw [e'];exact pD cs',he⟩)
    exact ⟨.ref l,_,I2.2,rfl,q l cs' I2.1 p' srt⟩
end
end PL
namespace PL
open PySem L2 Nh PyProof.Rows
def lg (v d:Addr):HO:= .ext fun h=>h.get? v=some {cls:= .type "dict_items",data:= .fields #[.ref d]}
def uV (to:TE):TE:=fun σ H Q=>to σ H fun x H1=>∃d us,x= .ref d∧H1 d=some (.dK us)∧∀v,H1 v=none→Q (.ref v) (upd H1 v (lg v d))
section
variable {X:Cx}
theorem uW {o:Expr} {to:TE} {apos cpos:Pos} (ho:PE X o to) (hbase:attributeBase o "items" X.env (eval o X.env)=eval o X.env:=by rfl) (hline:(apos.endLine == cpos.line)=true:=by rfl):PE X (.Call (.Attribute o "items" apos) [] [] cpos) (uV to):=by
  intro pins s σ H Q I h
  refine wpAny_Call_method0_late hbase hline (bQ (ho pins s σ H _ I h) fun v s1 ⟨x,H1,I1,r1,q1⟩=>?_)
  obtain ⟨d,us,rfl,hd,q⟩:=q1
  cases (show v=Value.ref d from r1)
  obtain ⟨z,y,vs,rv,o',es',ep',e1,c,e2,c2⟩:=(show ObjOk X.prog X.w H1 s1.heap d (.dK us) from I1.hok d _ hd)
  have ty:s1.TypeIs (.ref d) "dict":=⟨o',e1,c.1⟩
  refine ⟨"dict","dict.items",PySem.F.plainAttrs_dict,PySem.F.slot_dict_items,PySem.F.type_dict_items,ty,fun a ea=>?_,Calls.callWith_builtin rfl (PySem.evalArgs_none ?_)⟩
  · cases ea
    exact ⟨o',e1,c.2.1⟩
  refine call_meetsIn PySem.F.slot_dict_items ty PySem.F.entry_dict_items (PySem.F.args_dict_items_1 _) (meets_dict_items (aP X.prog X.w) d y) ⟨⟨vs,o',es',ep',e1,c,e2,c2⟩,?_⟩
  have at_:(s1.heap.push {cls:= .type "dict_items",data:= .fields #[.ref d]}).get? s1.heap.objs.size=some {cls:= .type "dict_items",data:= .fields #[.ref d]}:=Heap.get?_push_size _ rfl
  exact ⟨.ref s1.heap.objs.size,_,I1.laid (t':=s1.toks) (o:=lg s1.heap.objs.size d) (fun b u e=>Heap.get?_push_of_some _ e) (Nat.le_refl _) ⟨at_,⟨_,at_⟩,fun h1 h2 a b=>b _ a⟩,rfl,q _ (I1.hok.fresh (Nat.le_refl _))⟩
def xg (H1 H2:Hp) (l:Addr):Prop:=Same H1 H2∧H1 l=none∧∀b o,H2 b=some o→H1 b=some o∨b=l∨∃xs,o= .tup xs
theorem mC (hca:X.calm=true):CallR X (.builtin "sorted") (fun xs H Q=>∃(v d:Addr) (kvs:List Kp),xs=[.ref v]∧H v=some (lg v d)∧H d=some (.dK (dN kvs))∧kvs.length < 65536∧
    ∀l cs H2,xg H H2 l→H2 l=some (.lst (g9 cs))→(∀x∈cs,H2 x.1=some (.tup (sv x.2)))→cs.map (·.2)=cU kvs→Q (.ref l) H2):=by
  intro pins s σ H xs us Q I r h
  obtain ⟨v,d,kvs,rfl,hv,hd,hn,q⟩:=h
  cases r with
  | cons r rr=>
    cases rr
    cases r
    obtain ⟨vat,_,_⟩:=(show ObjOk X.prog X.w H s.heap v (lg v d) from I.hok v _ hv)
    obtain ⟨z,y,vs,rv,o',es',ep',e1,c,e2,c2⟩:=(show ObjOk X.prog X.w H s.heap d (.dK (dN kvs)) from I.hok d _ hd)
    have lv:vs.length=kvs.length:=by rw [←Paired.length rv];simp [dN]
    have dd:s.heap.DictAt (aP X.prog X.w) d vs ep':=⟨o',es',e1,c,e2,c2⟩
    refine NhSP.i7 fun E R k=>PySem.W.kdx_collect (A:=X.A.in1) (kvs:=vs) (ep:=ep') (I.ok.hd hca) ⟨_,vat,rfl,rfl⟩ dd (by rw [lv,sizeLine_eq];omega) fun h1 tk as hk hl hG=>?_
    have pr:∀(j:Nat) (a:Addr),as[j]? =some a→∃x,kvs[j]? =some x∧∃its,Vals (sv x) its∧IsTup h1 a its.toArray:=fun j a ha=>by
      obtain ⟨key,kk,u,g1,g2,g3⟩:=hG.pairs j a ha
      have hj:j < kvs.length:=by
        have:=(List.getElem?_eq_some_iff.mp ha).1
        omega
      have hu:(dN kvs)[j]? =some (Sum.inr ⟨kvs[j].1.toArray⟩,V.int kvs[j].2):=by simp [dN,List.getElem?_eq_getElem hj]
      obtain ⟨u',hu',ru⟩:=xa rv hu
      rw [g1] at hu'
      cases hu'
      exact ⟨kvs[j],List.getElem?_eq_getElem hj,[key,u], .cons (w_ g2) (.cons ru .nil),_,g3,rfl,_,rfl⟩
    have old:∀b o,s.heap.get? b=some o→b∉as:=fun b o e hb=>absurd (Nat.lt_trans (hG.above b hb) (Heap.lt_size e)) (Nat.lt_irrefl _)
    have zl:(as.zip kvs).length=kvs.length:=by rw [List.length_zip];omega
    have zm:∀x∈as.zip kvs,∃its,Vals (sv x.2) its∧IsTup h1 x.1 its.toArray:=fun x hx=>by
      obtain ⟨j,hj⟩:=List.getElem?_of_mem hx
      obtain ⟨e1,e2⟩:=List.getElem?_zip_eq_some.mp hj
      obtain ⟨y,ey,r⟩:=pr j x.1 e1
      rw [e2] at ey
      cases ey
      exact r
    have at_:∀x∈as.zip kvs,NhSP.IsKp h1 (.ref x.1)∧NhSP.cN h1 (.ref x.1)=x.2:=fun x hx=>by
      obtain ⟨its,r,h⟩:=zm x hx
      exact xc r h
    have ez:as.map Value.ref=(as.zip kvs).map fun x=>Value.ref x.1:=by
      have:(as.zip kvs).map Prod.fst=as:=List.map_fst_zip (by omega)
      calc as.map Value.ref=((as.zip kvs).map Prod.fst).map Value.ref:=by rw [this]
        _=_:=by rw [List.map_map];rfl
    refine k h1 tk (as.map Value.ref) hk (by rw [List.length_map];omega) (fun v hv=>?_) fun h' out c l hl' he ⟨t1,t2⟩ hk'=>?_
    · rw [ez] at hv
      obtain ⟨x,hx,rfl⟩:=List.mem_map.mp hv
      exact (at_ x hx).1
    obtain ⟨cs,p',e'⟩:=nR t1 (as.zip kvs) ez
    have srt:=uU p' e' (fun x hx=>(at_ x hx).2) t2
    rw [List.map_snd_zip (by omega)] at srt
    have hs0:s.heap.get? l=none:=by
      cases z:s.heap.get? l with
      | none=>rfl
      | some o=>rw [hk l o z] at hl';cases hl'
    have lc:∀x∈cs,x.1≠l:=fun x hx z=>by
      obtain ⟨its,r,o,ho,_⟩:=zm x (p'.mem_iff.mp hx)
      rw [z,hl'] at ho
      cases ho
    have uq:∀x∈cs,∀y∈cs,x.1=y.1→x=y:=fun x hx y hy e=>by
      have a:=(at_ x (p'.mem_iff.mp hx)).2
      have b:=(at_ y (p'.mem_iff.mp hy)).2
      rw [e] at a
      exact Prod.ext e (a.symm.trans b)
    let N:Hp:=fun b=>if b=l then some (.lst (g9 cs)) else (cs.find? fun x=>decide (x.1=b)).map fun x=> .tup (sv x.2)
    have nl:N l=some (.lst (g9 cs)):=if_pos rfl
    have nc:∀x∈cs,N x.1=some (.tup (sv x.2)):=fun x hx=>by
      show (if x.1=l then _ else _)=_
      rw [if_neg (lc x hx)]
      cases q:cs.find? fun y=>decide (y.1=x.1) with
      | none=>exact absurd (List.find?_eq_none.mp q x hx) (by simp)
      | some y=>
        have e1:=List.find?_some q
        have e2:=uq y (List.mem_of_find?_eq_some q) x hx (by simpa using e1)
        rw [e2];rfl
    have no:∀b o,N b=some o→(b=l∧o= .lst (g9 cs))∨∃x∈cs,b=x.1∧o= .tup (sv x.2):=fun b o q=>by
      by_cases hb:b=l
      · subst hb;rw [nl] at q;cases q;exact .inl ⟨rfl,rfl⟩
      · have q:(if b=l then some (HO.lst (g9 cs)) else (cs.find? fun x=>decide (x.1=b)).map fun x=>HO.tup (sv x.2))=some o:=q
        rw [if_neg hb] at q
        obtain ⟨x,e1,rfl⟩:=Option.map_eq_some_iff.mp q
        exact .inr ⟨x,List.mem_of_find?_eq_some e1,(by simpa using List.find?_some e1:x.1=b).symm,rfl⟩
    have fresh:∀b o,N b=some o→s.heap.get? b=none:=fun b o q=>by
      rcases no b o q with ⟨rfl,_⟩ | ⟨x,hx,rfl,_⟩
      · exact hs0
      · cases z:s.heap.get? x.1 with
        | none=>rfl
        | some ob=>exact absurd (List.of_mem_zip (a:=x.1) (b:=x.2) (p'.mem_iff.mp hx)).1 (old _ _ z)
    have I2:=I.laidAll (N:=N) (h':=h') (t':=tk) (fun b u e=>hk' b u (hk b u e)) fresh fun b o q=>by
      rcases no b o q with ⟨rfl,rfl⟩ | ⟨x,hx,rfl,rfl⟩
      · refine ⟨?_,out.toList,c,by rw [e'];exact pD cs,he⟩
        show (List.map _ cs).length≤_
        rw [List.length_map,p'.length_eq,zl]
        exact dw (by omega)
      · obtain ⟨its,r,ob,ho,hc⟩:=zm x (p'.mem_iff.mp hx)
        exact ⟨by show 2≤sizeLine;rw [sizeLine_eq];decide,its,r,ob,hk' _ _ ho,hc⟩
    have hnone:∀b o,N b=some o→H b=none:=fun b o q=>by
      cases z:H b with
      | none=>rfl
      | some u=>
        obtain ⟨ob,y⟩:=gq (I.hok b u z)
        rw [fresh b o q] at y
        cases y
    refine ⟨.ref l,_,I2,rfl,q l cs _ ⟨fun b o e=>?_,hnone _ _ nl,fun b o e=>?_⟩ (j6 nl) (fun x hx=>j6 (nc x hx)) srt⟩
    · cases z:N b with
      | none=>exact (gG z).trans e
      | some u=>rw [hnone _ _ z] at e;cases e
    · cases z:N b with
      | none=>rw [gG z] at e;exact .inl e
      | some u=>
        rw [j6 z] at e
        cases e
        rcases no b _ z with ⟨rfl,_⟩ | ⟨x,hx,_,rfl⟩
        · exact .inr (.inl rfl)
        · exact .inr (.inr ⟨_,rfl⟩)
end
end PL
namespace PL
open PySem L2 Nh PyProof.Rows
abbrev Tb:=NH.Tb Nat
abbrev fB (w:List Nat):Str:=⟨w.toArray⟩
theorem tk_inj {a b:List Nat}:((Sum.inr (fB a):bu)=Sum.inr (fB b))↔a=b:=by
  constructor
  · intro h
    injection h with h
    have:=congrArg (fun z:Str=>z.cps.toList) h
    simpa using this
  · intro h;rw [h]
theorem pE (a b:List Nat):fB a++fB b=fB (a++b):=by
  show (⟨a.toArray++b.toArray⟩:Str)=_
  simp
theorem pF (a:List Nat):(fB a).length=a.length:=by show a.toArray.size=_;simp
theorem yz (D:Tb) (k:List Nat):(fz (dN D) (Sum.inr (fB k))).getD (.int 0)= .int (NH.bS D k):=by
  induction D with
  | nil=>rfl
  | cons p D ih=>
    show (fz ((Sum.inr (fB p.1),V.int p.2)::dN D) (Sum.inr (fB k))).getD (.int 0)=_
    by_cases e:p.1=k
    · rw [h7 (tk_inj.mpr e),NH.bS,if_pos e];rfl
    · rw [h8 (fun z=>e (tk_inj.mp z)),ih,NH.bS,if_neg e]
theorem wk (D:Tb) (k:List Nat):fz (dN D) (Sum.inr (fB k))=none→NH.iN D k=D:=by
  intro h
  refine List.filter_eq_self.mpr fun p hp=>?_
  have:=List.find?_eq_none.mp (Option.map_eq_none_iff.mp h) (Sum.inr (fB p.1),V.int p.2) (List.mem_map.mpr ⟨p,hp,rfl⟩)
  have e:¬p.1=k:=fun z=>this (by simpa using tk_inj.mpr z)
  simp [e]
theorem yA (D:Tb) (k:List Nat):((dN D).any fun kv=>decide (kv.1=(Sum.inr (fB k):bu)))=NH.ke D k:=by
  induction D with
  | nil=>rfl
  | cons p D ih=>
    show ((Sum.inr (fB p.1),V.int p.2)::dN D).any _=_
    rw [List.any_cons,ih]
    show _=(decide (p.1=k)||NH.ke D k)
    congr 1
    exact decide_eq_decide.mpr tk_inj
theorem yB (D:Tb) (k:List Nat) (n:Int):f6 (dN D) (Sum.inr (fB k)) (.int n)=dN (NH.gK D k n):=by
  unfold f6 NH.gK
  rw [yA]
  split
  · show List.map _ (List.map _ D)=List.map _ (List.map _ D)
    rw [List.map_map,List.map_map]
    refine List.map_congr_left fun p _=>?_
    simp only [Function.comp]
    by_cases e:p.1=k
    · rw [if_pos (tk_inj.mpr e),if_pos e]
    · rw [if_neg (fun z=>e (tk_inj.mp z)),if_neg e]
  · simp [dN]
theorem wl (D:Tb) (k:List Nat):jM (dN D) (Sum.inr (fB k))=dN (NH.iN D k):=by
  unfold jM NH.iN dN
  rw [List.filter_map]
  congr 1
  refine List.filter_congr fun p _=>?_
  simp only [Function.comp,ne_eq,decide_not]
  congr 1
  exact decide_eq_decide.mpr tk_inj
theorem pG (D:Tb):(dN D).length=D.length:=by simp [dN]
theorem wm (D:Tb) (k:List Nat) (n:Int):(NH.gK D k n).length≤D.length+1:=by
  unfold NH.gK
  split <;> simp
def zY (to:TE):TE:=fun σ H Q=>to σ H fun x H1=>∃d us,x= .ref d∧H1 d=some (.dK us)∧∀ob es ep,ob.data= .dict es ep→Q (.ref d) (upd H1 d (.frz ob (.dK us)))
theorem yC {X:Cx} {o:Expr} {to:TE} (ho:PE X o to):PE X o (zY to):=fun pins s σ H Q I h=>bQ (ho pins s σ H _ I h) fun v s1 ⟨x,H1,I1,r1,d,us,ex,hd,q⟩=>by
  subst ex
  obtain ⟨ob,es,ep,e,I2⟩:=pA I1 hd
  exact ⟨.ref d,_,I2,r1,q ob es ep e⟩
def xh (H0:Hp) (t:TS):TS:=fun D σ H=>t {D with nx:=fun σ' H'=>∃d ob us,H' d=some (.frz ob (.dK us))∧(∀o v,H0 d≠some (.frz o v))∧D.nx σ' (upd H' d (.dK us))} σ H
theorem wn {X:Cx} {st:Stmt} {t:TS} (h:PS X st t):PS X st (xh X.H₀ t):=fun pins s σ H D I q=>bQ (h pins s σ H _ I q) fun f s' z=>by
  cases f with
  | next=>
    obtain ⟨σ',H',I',d,ob,us,e1,e2,q'⟩:=z
    exact ⟨σ',_,uS I' e1 e2,q'⟩
  | brk=>exact z
  | cont=>exact z
  | ret u=>exact z
theorem sw {d:Addr} {o:Obj} {us:List (bu×V)} {g:TG} {tb:TS} {D:Ends} {σ:L2.St} {H:Hp} (Pv:Nat→L2.St→Hp→Prop) (h0:Pv 0 σ H) (hl:∀i σ H,i≤us.length→Pv i σ H→H d=some (.frz o (.dK us)))
    (hs:∀i k u σ H T,us[i]? =some (k,u)→Pv i σ H→H T=none→g (.ref T) σ (upd H T (.tup [kV k,u])) fun σ2 H2=>tb {D with nx:=Pv (i+1),ct:=Pv (i+1),bk:=D.nx} σ2 H2) (hd:∀σ H,Pv us.length σ H→D.nx σ H):
    ∃W:Nat→Nat→L2.St→Hp→Prop,(∃m,W 0 m σ H)∧∀i m σ H,W i m σ H→
      ((zW d o us).stop i H∧D.nx σ H)∨((zW d o us).go i H∧∃N:L2.St→Hp→Prop,(∀σ' H',N σ' H'→∃m',m' < m∧W (i+1) m' σ' H')∧∀x H',(zW d o us).yld i H x H'→g x σ H' fun σ2 H2=>tb {D with nx:=N,ct:=N,bk:=D.nx} σ2 H2):=by
  refine ⟨fun i m σ H=>m=us.length - i∧i≤us.length∧Pv i σ H,⟨us.length,by simp,Nat.zero_le _,h0⟩,?_⟩
  rintro i m σ H ⟨rfl,hi,p⟩
  have q:=hl i σ H hi p
  by_cases hlt:i < us.length
  · refine .inr ⟨⟨q,hlt⟩,Pv (i+1),fun σ' H' p'=>⟨us.length - (i+1),by omega,rfl,hlt,p'⟩,fun x H' y=>?_⟩
    obtain ⟨T,k,u,hT,hu,rfl,rfl⟩:=y
    exact hs i k u σ _ T hu p hT
  · have e:i=us.length:=by omega
    subst e
    exact .inl ⟨⟨q,rfl⟩,hd σ H p⟩
end PL
namespace PL
open PySem L2 Nh PyProof.Rows
theorem uX {lo:Int} {n:Nat} {l:Addr} {g:TG} {tt:TT} {te:TE} {Q:VK} {σi:L2.St} {H1:Hp} (Pv:Nat→L2.St→Hp→Prop) (h0:Pv 0 σi (upd H1 l (.lst [])))
    (hs:∀i σ H,i < n→Pv i σ H→g (.int (lo+i)) σ H fun σ3 H3=>tt σ3 H3 fun b H4=>if b=true then te σ3 H4 fun y H5=>∃ys,H5 l=some (.lst ys)∧ys.length < sizeLine∧Pv (i+1) σ3 (upd H5 l (.lst (ys++[y]))) else Pv (i+1) σ3 H4)
    (hd:∀σ H,Pv n σ H→Q (.ref l) H):∃W:Nat→Nat→L2.St→Hp→Prop,(∃m,W 0 m σi (upd H1 l (.lst [])))∧
  ∀i m σ' H',W i m σ' H'→((sW lo n).stop i H'∧Q (.ref l) H')∨((sW lo n).go i H'∧∃N:L2.St→Hp→Prop,(∀σ' H',N σ' H'→∃m',m' < m∧W (i+1) m' σ' H')∧∀x H2,(sW lo n).yld i H' x H2→g x σ' H2 fun σ3 H3=>tt σ3 H3 fun b H4=>
    if b=true then te σ3 H4 fun y H5=>∃ys,H5 l=some (.lst ys)∧ys.length < sizeLine∧N σ3 (upd H5 l (.lst (ys++[y]))) else N σ3 H4):=by
  refine ⟨fun i m σ H=>m=n - i∧i≤n∧Pv i σ H,⟨n,by simp,Nat.zero_le _,h0⟩,?_⟩
  rintro i m σ H ⟨rfl,hi,p⟩
  by_cases hlt:i < n
  · refine .inr ⟨hlt,Pv (i+1),fun σ' H' p'=>⟨n - (i+1),by omega,rfl,hlt,p'⟩,fun x H' y=>?_⟩
    obtain ⟨e,y⟩:=y
    subst e y
    exact hs i σ _ hlt p
  · have e:i=n:=by omega
    subst e
    exact .inl ⟨Nat.le_refl _,hd σ H p⟩
def Sm (i j:Nat) (D:Tb):Prop:=D.length≤3 ^ (i+j)∧∀p∈D,p.1.length≤i+j
theorem Sm.small {i j:Nat} {D:Tb} (h:Sm i j D) (hij:i+j≤11):D.length≤177147∧∀p∈D,p.1.length≤11:=by
  have:3 ^ (i+j)≤3 ^ 11:=Nat.pow_le_pow_right (by omega) hij
  exact ⟨Nat.le_trans h.1 (Nat.le_trans this (by decide)),fun p hp=>Nat.le_trans (h.2 p hp) hij⟩
theorem j8 {as:List Addr} {j:Nat} {a:Addr} (h:as[j]? =some a):atI (as.map V.ref) (j:Int)=some (.ref a):=by
  rw [cB,List.getElem?_map,h];rfl
end PL
namespace PL
open PySem L2 Nh PyProof.Rows
def bB (x:Kp):PyData:= .tuple [.str (fB x.1), .int x.2]
abbrev zZ:List V→Hp→VK→Prop:=fun xs H Q=>∃(v d:Addr) (kvs:List Kp),xs=[.ref v]∧H v=some (lg v d)∧H d=some (.dK (dN kvs))∧kvs.length < 65536∧
    ∀l cs H2,xg H H2 l→H2 l=some (.lst (g9 cs))→(∀x∈cs,H2 x.1=some (.tup (sv x.2)))→cs.map (·.2)=cU kvs→Q (.ref l) H2
theorem uY {K:PySem.W.Frag} {H:Hp}:∀{cs:Ca},(∀x∈cs,H x.1=some (.tup (sv x.2)))→RpA K (tups H) (g9 cs) ((cs.map (·.2)).map bB)
  | [],_=> .nil
  | x::cs,h=> .cons (.tup (SqT.of (gA (h x (List.mem_cons_self ..)) rfl)) (.cons (.str _) (.cons (.int _) .nil))) (uY fun y hy=>h y (List.mem_cons_of_mem _ hy))
end PL
namespace PL
open PySem L2 Nh
section
variable {K:PySem.W.Frag} {F H B:Hp} {A:List Addr} {σ:Sg} {E:List Sl} {xs:List V} {Xs:List Sl}
theorem KvOk.len {us:List (bu×V)} {kvs:List (bu×PyData)} (h:KvOk K F us kvs):us.length=kvs.length:=Paired.length h
end
end PL
namespace PL
open PySem L2 Nh
def pH:List PyData→Option (List Kp)
  | []=>some []
  | .tuple [.str x, .int n]::r=>(pH r).map fun l=>(x.cps.toList,n)::l
  | _=>none
def iq (g:b7):b7:=fun E=>(g E).bind fun a=>match look a.2 a.1 with
  | some (.list ds)=>(pH ds).bind fun D=>if D.length < 65536 then some (.ow ((cU D).map bB),a.2) else none
  | _=>none
theorem qJ {K:PySem.W.Frag} {H:Hp}:∀{ds:List PyData} {D:List Kp} {vs:List V},pH ds=some D→RpA K H vs ds→∃cs:Ca,vs=g9 cs∧cs.map (·.2)=D∧∀x∈cs,SqT K H x.1 (sv x.2)
  | [],D,_,e, .nil=>by cases e;exact ⟨[],rfl,rfl,fun _ z=>nomatch z⟩
  | d::ds,D,_,e, .cons (x:=v) h r=>by
    unfold pH at e
    split at e
    · cases ‹d::ds=[]›
    · rename_i x n r' ec
      cases ec
      obtain ⟨l,e1,rfl⟩:=Option.map_eq_some_iff.mp e
      obtain ⟨cs,e2,e3,e4⟩:=qJ e1 r
      cases h with
      | tup h1 h2=>
        rename_i a us
        obtain ⟨v1,v2,rfl,r1,r2⟩:=h2.two
        cases r1
        cases r2
        refine ⟨(a,(x.cps.toList,n))::cs,by rw [e2];rfl,by rw [List.map_cons,e3],fun y hy=>?_⟩
        rcases List.mem_cons.mp hy with z | z
        · subst z
          have:fB x.cps.toList=x:=by cases x;simp [fB]
          show SqT K H a [.str (fB x.cps.toList), .int n]
          rw [this];exact h1
        · exact e4 y z
    · cases e
theorem uZ {K:PySem.W.Frag} {H:Hp}:∀{cs:Ca},(∀x∈cs,SqT K H x.1 (sv x.2))→RpA K H (g9 cs) ((cs.map (·.2)).map bB)
  | [],_=> .nil
  | x::cs,h=> .cons (.tup (h x (List.mem_cons_self ..)) (.cons (.str _) (.cons (.int _) .nil))) (uZ fun y hy=>h y (List.mem_cons_of_mem _ hy))
theorem iu:∀D:List Kp,aO (D.map bB)=true
  | []=>rfl
  | x::D=>by simp [aO,cJ,bB,iu D]
section
variable {X:Cx} {e:Expr} {m1:Bool} {f:b7} {p pos px apos cpos:Pos} {x:Str}
theorem pI (hg:Gl X "sorted") (hm:X.mg "sorted"=none) (ha:EX X e m1 f) (he:starEach [e] X.env=[(false,eval e X.env)]:=by rfl):EX X (.Call (.Name "sorted" p) [e] [] pos) m1 (iq f):=by
  refine bY (f_ mB hg hm PyProof.Rows.boot_sorted (aK ha cw he) (by decide) (by decide) he rfl) fun σ H Q z=>?_
  obtain ⟨B,E,xs,Xs,res,E',fr,cl,e,q⟩:=z
  obtain ⟨⟨s,E1⟩,e1,e⟩:=Option.bind_eq_some_iff.mp e
  refine ⟨B,E,xs,Xs,s,E1,fr,cl,e1,fun v1 H1 ⟨F,A,fr1⟩=>?_⟩
  obtain ⟨A',fr2⟩:=fr1.pop
  simp only at e
  split at e
  · rename_i ds ld
    obtain ⟨D,eD,e⟩:=Option.bind_eq_some_iff.mp e
    split at e
    · rename_i hD
      cases e
      have r:=(fr1.look0 ld).1
      cases r with
      | lst h1 h2=>
        obtain ⟨cs,rfl,e3,e4⟩:=qJ eD h2
        subst e3
        refine ⟨_,cs,rfl,h1,e4,by simpa using hD,fun l cs' hl p' srt=>q _ _ ⟨F,_,fr2.newl (fr2.coldA ?_ (iu _)) hl⟩⟩
        rw [←srt]
        exact uZ fun x hx=>e4 x (p'.mem_iff.mp hx)
    · cases e
  · cases e
end
end PL
namespace PL
open PySem L2 Nh PyProof.Rows
def ft (t:List Nat) (m:Int):Tb→Tb→Tb
  | [],D=>D
  | p::R,D=>ft t m R (if NH.bS D (p.1++t)+p.2*m=0 then NH.iN D (p.1++t) else NH.gK D (p.1++t) (NH.bS D (p.1++t)+p.2*m))
theorem qK (D:Tb) (k:List Nat) (n:Int):(if n=0 then NH.iN D k else NH.gK D k n).length≤D.length+1:=by
  split
  · exact Nat.le_succ_of_le (List.length_filter_le _ _)
  · exact wm D k n
theorem nS (t:List Nat) (m:Int):∀R D:Tb,(ft t m R D).length≤D.length+R.length
  | [],D=>by simp [ft]
  | p::R,D=>by
    have h:=nS t m R (if NH.bS D (p.1++t)+p.2*m=0 then NH.iN D (p.1++t) else NH.gK D (p.1++t) (NH.bS D (p.1++t)+p.2*m))
    have h2:=qK D (p.1++t) (NH.bS D (p.1++t)+p.2*m)
    simp only [ft,List.length_cons]
    omega
def As:Sp:=fun vs H Q _=>∃d e D R t m,vs=[.ref d, .ref e, .str (fB t), .int m]∧d≠e∧H d=some (.dK (dN D))∧H e=some (.dK (dN R))∧D.length+R.length≤1000000∧(∀p∈R,p.1.length+t.length≤1000∧bN p.2 m=true)∧
  ∀H',SameBut d H H'→H' d=some (.dK (dN (ft t m R D)))→Q .non H'
def yD (K:PySem.W.Frag):TE:=ly (kK K) (cg 4) (cg 2)
theorem wo {K:PySem.W.Frag} {H0:Hp} {vs:List V} {Q:VK} {E:XK} {D:Ends} {N:List Str} (h:As vs H0 Q E) (hD:∀σ H',Q .non H'→D.nx σ H') (hN:N.length=7:=by rfl):
    xh H0 (sY (zX (zY (cg 1))) (xC K 2 (mU (dL 4) (mU (dL 5) xB)))
      (rn (oF (ly (kK K) (t5 (cg 0) (yD K) (tC (.int 0))) (ly (tR K) (cg 5) (cg 3))) (dL 6))
      (xy (p6 (ly AF (cg 6) (tC (.int 0)))) (pW (t7 (cg 0) (yD K) (tC (.int 0)))) (wU (cg 0) (yD K) (cg 6))))) D (L2.start N vs) H0:=by
  obtain ⟨d,e,T,R,t,m,rfl,hne,hd,he,hz,hl,q⟩:=h
  have hst:∀vs:List V,vs.length=4→L2.start N vs=vs.map some++[none,none,none]:=fun vs hv=>by unfold L2.start;rw [hN,hv];rfl
  rw [hst _ rfl]
  refine ⟨_,rfl,e,_,rfl,he,fun ob es ep hob=>⟨e,ob,_,es,ep,rfl,upd_same,hob,?_⟩⟩
  refine sw (fun i σ H'=>(∃x4 x5 x6,σ=[some (.ref d),some (.ref e),some (.str (fB t)),some (.int m),x4,x5,x6])∧H' e=some (.frz ob (.dK (dN R)))∧(∀b o,b≠d→b≠e→H0 b=some o→H' b=some o)∧∃T',H' d=some (.dK (dN T'))∧ft t m (R.drop i) T'=ft t m R T∧T'.length≤T.length+i)
    ⟨⟨_,_,_,rfl⟩,upd_same,fun b o hb he' q=>by rw [ao he'];exact q,T,by rw [ao hne];exact hd,rfl,Nat.le_refl _⟩ (fun i σ H' _ h=>h.2.1) (fun i k u σ H' Tt hu ⟨⟨x4,x5,x6,es'⟩,h1,h2,T',h3,h4,h5⟩ hT=>?_) fun σ H' ⟨⟨x4,x5,x6,es'⟩,h1,h2,T',h3,h4,h5⟩=>?_
  · subst es'
    have hi:i < R.length:=by have:=(List.getElem?_eq_some_iff.mp hu).1;rw [pG] at this;exact this
    have hu':(dN R)[i]? =some (Sum.inr (fB R[i].1),V.int R[i].2):=by simp [dN,List.getElem?_eq_getElem hi]
    rw [hu] at hu'
    cases hu'
    have dT:d≠Tt:=fun z=>by rw [←z,h3] at hT;cases hT
    have eT:e≠Tt:=fun z=>by rw [←z,h1] at hT;cases hT
    have h3':upd H' Tt (.tup [kV (Sum.inr (fB R[i].1)),V.int R[i].2]) d=some (.dK (dN T')):=by rw [ao dT];exact h3
    obtain ⟨hl1,hl2⟩:=hl R[i] (List.getElem_mem hi)
    have lw:(fB R[i].1).length+(fB t).length≤sizeLine:=by
      rw [pF,pF]
      exact dw (by omega)
    have fin:∀(H2:Hp) (W:Tb),(∀b,b≠d→H2 b=upd H' Tt (.tup [kV (Sum.inr (fB R[i].1)),V.int R[i].2]) b)→H2 d=some (.dK (dN W))→ft t m (R.drop (i+1)) W=ft t m R T→W.length≤T.length+(i+1)→
        H2 e=some (.frz ob (.dK (dN R)))∧(∀b o,b≠d→b≠e→H0 b=some o→H2 b=some o)∧∃T',H2 d=some (.dK (dN T'))∧ft t m (R.drop (i+1)) T'=ft t m R T∧T'.length≤T.length+(i+1):=fun H2 W hb kF ea el=>by
      refine ⟨?_,fun b o hbd hbe q'=>?_,W,kF,ea,el⟩
      · rw [hb e hne.symm,ao eT];exact h1
      · have bT:b≠Tt:=fun z=>by rw [z] at q';have:=h2 _ _ (by rw [←z];exact hbd) (by rw [←z];exact hbe) q';rw [hT] at this;cases this
        rw [hb b hbd,ao bT]
        exact h2 b o hbd hbe q'
    have ea:ft t m (R.drop (i+1)) (if NH.bS T' (R[i].1++t)+R[i].2*m=0 then NH.iN T' (R[i].1++t) else NH.gK T' (R[i].1++t) (NH.bS T' (R[i].1++t)+R[i].2*m))=ft t m R T:=by
      rw [←h4,List.drop_eq_getElem_cons hi];rfl
    have el:=qK T' (R[i].1++t) (NH.bS T' (R[i].1++t)+R[i].2*m)
    refine ⟨Tt,_,rfl,SqT.of upd_same,rfl,_,_,rfl,_,_,rfl,rfl,?_⟩
    refine ⟨_,rfl,d,rfl, .inl ⟨_, .inl h3'⟩,_,rfl,_,rfl, .inr (.inl ⟨_,_,rfl,rfl,lw,?_⟩)⟩
    refine ⟨_, .inl ⟨_,Sum.inr (fB (R[i].1++t)), .inl h3',by rw [pE];rfl,rfl⟩,?_⟩
    refine ⟨_,rfl,_,rfl, .inl ⟨_,_,rfl,rfl,hl2, .inl ⟨_,_,yz _ _,rfl,?_⟩⟩⟩
    refine ⟨_,rfl,rfl,_,rfl,?_⟩
    by_cases hn:NH.bS T' (R[i].1++t)+R[i].2*m=0
    · refine (if_pos (by simp [hn])).mpr ?_
      rw [if_pos hn] at ea el
      refine ⟨_,rfl,d,rfl, .inl ⟨_, .inl h3'⟩,_,rfl,_,rfl, .inr (.inl ⟨_,_,rfl,rfl,lw,?_⟩)⟩
      refine ⟨_,Sum.inr (fB (R[i].1++t)),h3',by rw [pE];rfl,fun v _=>⟨⟨_,_,_,rfl⟩,?_⟩,fun hv=>⟨⟨_,_,_,rfl⟩,?_⟩⟩
      · exact fin _ _ (fun b hb=>ao hb) (upd_same.trans (by rw [wl])) ea (by omega)
      · have e0:=wk T' (R[i].1++t) hv
        rw [e0] at ea
        exact fin _ T' (fun b hb=>rfl) h3' ea (by omega)
    · refine (if_neg (by simp [hn])).mpr ?_
      rw [if_neg hn] at ea el
      refine ⟨_,rfl,_,rfl,_,rfl,_,rfl, .inr (.inl ⟨_,_,rfl,rfl,lw,?_⟩)⟩
      rw [pE]
      exact ⟨d,_,rfl,DPut.k (k:=Sum.inr (fB (R[i].1++t))) h3' (by rw [pG];exact small (by omega)),⟨_,_,_,rfl⟩,fin _ _ (fun b hb=>ao hb) (upd_same.trans (by rw [yB])) ea (by omega)⟩
  · subst es'
    rw [pG,List.drop_length] at h4
    refine ⟨e,ob,_,h1,fun o v z=>(by rw [he] at z;cases z),hD _ _ (q _ (fun b o hb q'=>?_) ?_)⟩
    · by_cases hbe:b=e
      · subst hbe;rw [he] at q';cases q';exact upd_same
      · rw [ao hbe];exact h2 b o hb hbe q'
    · rw [ao hne,h3]
      exact congrArg (fun z=>some (HO.dK (dN z))) h4
def f8 (a:Nat) (g:Nat→Int) (f:Nat→Tb) (j:Nat):Nat→Tb
  | 0=>f j
  | c+1=>if g (c+1)≠0 then ft (List.replicate (c+1) a) (g (c+1)) (f (j - (c+1))) (f8 a g f j c) else f8 a g f j c
def mO (a:Nat) (g:Nat→Int) (f:Nat→Tb) (m c j:Nat):Tb:=if j < m then f j else f8 a g f j (if j - m < c then j - m+1 else j - m)
theorem nT {a:Nat} {g:Nat→Int} {f:Nat→Tb} {n B:Nat} (hf:∀j,j≤n→(f j).length≤B) (j:Nat) (hj:j≤n):∀c,(f8 a g f j c).length≤(c+1)*B
  | 0=>by
    rw [Nat.zero_add,Nat.one_mul]
    exact hf j hj
  | c+1=>by
    have ih:=nT hf j hj (a:=a) (g:=g) c
    have h2:=hf (j - (c+1)) (by omega)
    rw [Nat.succ_mul]
    unfold f8
    split
    · have h1:=nS (List.replicate (c+1) a) (g (c+1)) (f (j - (c+1))) (f8 a g f j c)
      omega
    · omega
theorem pJ {lo c:Int} {n:Nat} {g:TG} {tb:TS} {D:Ends} {σ:L2.St} {H:Hp} (Pv:Nat→L2.St→Hp→Prop) (h0:Pv 0 σ H)
    (hs:∀i σ H,i < n→Pv i σ H→g (.int (lo+i*c)) σ H fun σ2 H2=>tb {D with nx:=Pv (i+1),ct:=Pv (i+1),bk:=D.nx} σ2 H2) (hd:∀σ H,Pv n σ H→D.nx σ H):
    ∃W:Nat→Nat→L2.St→Hp→Prop,(∃m,W 0 m σ H)∧∀i m σ H,W i m σ H→
      ((yY lo c n).stop i H∧D.nx σ H)∨((yY lo c n).go i H∧∃N:L2.St→Hp→Prop,(∀σ' H',N σ' H'→∃m',m' < m∧W (i+1) m' σ' H')∧∀x H',(yY lo c n).yld i H x H'→g x σ H' fun σ2 H2=>tb {D with nx:=N,ct:=N,bk:=D.nx} σ2 H2):=by
  refine ⟨fun i m σ H=>m=n - i∧i≤n∧Pv i σ H,⟨n,by simp,Nat.zero_le _,h0⟩,?_⟩
  rintro i m σ H ⟨rfl,hi,p⟩
  by_cases hlt:i < n
  · refine .inr ⟨hlt,Pv (i+1),fun σ' H' p'=>⟨n - (i+1),by omega,rfl,hlt,p'⟩,fun x H' y=>?_⟩
    obtain ⟨e,y⟩:=y
    subst e y
    exact hs i σ _ hlt p
  · have e:i=n:=by omega
    subst e
    exact .inl ⟨Nat.le_refl _,hd σ H p⟩
def pK (pn:List PyData→Option Sl) (n:Nat) (f:Nat→Tb) (p:Nat×Int):Prop:=pn [.int p.2, .int n]=some (.ow ((List.range (n+1)).map fun k=> .int (NH.ch p.2 k)))∧∀j,j≤n→(f j).length≤100000∧∀q∈f j,q.1.length≤100∧∀k,k≤n→bN q.2 (NH.ch p.2 k)=true
def y8 (H:Hp) (as:List Addr) (f:Nat→Tb):Prop:=∀j a,as[j]? =some a→H a=some (.dK (dN (f j)))
def At (K:PySem.W.Frag) (pn:List PyData→Option Sl):Sp:=fun vs H Q _=>∃M a t as f n,vs=[.ref M, .str (fB [a]), .int t]∧n≤8∧as.length=n+1∧as.Nodup∧H M=some (.lst (as.map V.ref))∧M∉as∧y8 H as f∧pK pn n f (a,t)∧
  ∀H',(∀b o,b∉as→H b=some o→H' b=some o)→y8 H' as (fun j=>f8 a (NH.ch t) f j j)→Q .non H'
abbrev z0 (K:PySem.W.Frag):List V→Hp→VK→Prop:=fun xs H Q=>∃p ys,xs=[.ref p]∧(SqL K H p ys∨SqT K H p ys)∧Q (.int ys.length) H
abbrev z_ (a b:TE):TE:=ly (vg fun i j=> .int (i+j)) a b
abbrev yE (a b:TE):TE:=ly (vg fun i j=> .int (i - j)) a b
abbrev Aa (a:TE):TE:=Bf (rU fun i=> .int (-i)) a
def A_ (K:PySem.W.Frag):TS:=xy (p6 (ly AG (ly (oO K) (cg 4) (cg 6)) (tC (.int 0)))) (pW (kr As [] E0 (cR (ly (oO K) (cg 0) (z_ (cg 5) (cg 6))) (cR (ly (oO K) (cg 0) (cg 5)) (cR (ly wX (cg 1) (cg 6)) (cR (ly (oO K) (cg 4) (cg 6)) ja)))))) wK
def Ba (K:PySem.W.Frag) (pn:List PyData→Option Sl):TS:=
  rn (oF (yE (zo (z0 K) (cR (cg 0) ja)) (tC (.int 1))) (dL 3))
  (rn (oF (kr (fG K pn) [] E0 (cR (cg 2) (cR (cg 3) ja))) (dL 4))
  (sY (wW (cR (yE (cg 3) (tC (.int 1))) (cR (Aa (tC (.int 1))) (cR (Aa (tC (.int 1))) ja)))) (dL 5)
    (sY (wM (cR (tC (.int 1)) (cR (z_ (yE (cg 3) (cg 5)) (tC (.int 1))) ja))) (dL 6) (A_ K))))
theorem mul_one (a:Nat) (m:Nat):Txt.mul (fB [a]) (m:Int)=fB (List.replicate m a):=by
  unfold Txt.mul
  by_cases h0:(m:Int) < 1
  · rw [if_pos h0]
    have:m=0:=by omega
    subst this
    rfl
  · rw [if_neg h0]
    by_cases h1:((m:Int) == 1||(fB [a]).length == 0)=true
    · rw [if_pos h1]
      have:m=1:=by
        have:(fB [a]).length=1:=rfl
        simp [this] at h1
        omega
      subst this
      rfl
    · rw [if_neg h1,Int.toNat_natCast]
      have key:∀(k:Nat) (acc:Array Nat),(List.replicate k (#[a]:Array Nat)).foldl (· ++ ·) acc=acc++(List.replicate k a).toArray:=fun k=>by
        induction k with
        | zero=>intro acc;simp
        | succ k ih=>
          intro acc
          rw [List.replicate_succ,List.foldl_cons,ih,List.replicate_succ]
          apply Array.toList_inj.mp
          simp
      have e:=key m #[]
      show (⟨(List.replicate m (#[a]:Array Nat)).foldl (· ++ ·) #[]⟩:Str)=_
      rw [e]
      simp
theorem wp (n:Nat) (hn:n≤8):nC ((n:Int) - 1) (-1) (-1)=n:=by
  unfold nC Builtin.Range.rangeSize
  by_cases h:n=0
  · subst h;decide
  · rw [if_neg (by decide),if_pos (by omega)]
    have e:((n:Int) - 1 - -1 - 1) / - -1=(n:Int) - 1:=by rw [show - -(1:Int)=1 from rfl,Int.ediv_one];omega
    rw [e]
    omega
theorem wq {K:PySem.W.Frag} {pn:List PyData→Option Sl} {H0:Hp} {vs:List V} {Q:VK} {E:XK} {D:Ends} {N:List Str} (h:At K pn vs H0 Q E) (hD:∀σ H',Q .non H'→D.nx σ H') (hN:N.length=7:=by rfl):Ba K pn D (L2.start N vs) H0:=by
  obtain ⟨M,a,t,as,f,n,rfl,hn,al,nd,hM,Mas,hA,⟨hpn,hf⟩,q⟩:=h
  have hst:∀vs:List V,vs.length=3→L2.start N vs=vs.map some++[none,none,none,none]:=fun vs hv=>by unfold L2.start;rw [hN,hv];rfl
  rw [hst _ rfl]
  have en:((((as.map V.ref).length:Nat):Int) - 1)=(n:Int):=by rw [List.length_map,al];omega
  refine ⟨_,rfl,M,_,rfl, .inl (SqL.of hM),_,_,rfl,rfl,?_⟩
  show dL 3 (V.int ((((as.map V.ref).length:Nat):Int) - 1)) _ H0 _
  rw [en]
  refine ⟨_,rfl,_,rfl,[.int t, .int n],_,hpn, .cons (.int _) (.cons (.int _) .nil),fun v H1 s1 ro=>?_⟩
  obtain ⟨S,us,rfl,hS0,hS1,rus⟩:=ro
  have eus:us=((List.range (n+1)).map (NH.ch t)).map V.int:=by
    have e2:((List.range (n+1)).map fun k=>PyData.int (NH.ch t k))=((List.range (n+1)).map (NH.ch t)).map PyData.int:=by rw [List.map_map];rfl
    rw [e2] at rus
    exact l7 rus (by
      have key:∀xs:List Int,kY (xs.map PyData.int)=some xs:=fun xs=>by
        induction xs with
        | nil=>rfl
        | cons x xs ih=>simp [kY,ih]
      exact key _)
  subst eus
  have Sas:S∉as:=fun z=>by
    obtain ⟨j,hj⟩:=List.getElem?_of_mem z
    rw [hA j S hj] at hS0
    cases hS0
  have at_:∀j,j≤n→∃a,as[j]? =some a:=fun j hj=>⟨as[j],List.getElem?_eq_getElem (by omega)⟩
  have gS:∀{H:Hp} {k:Nat},H S=some (.lst (((List.range (n+1)).map (NH.ch t)).map V.int))→k≤n→atI (((List.range (n+1)).map (NH.ch t)).map V.int) (k:Int)=some (.int (NH.ch t k)):=fun {H k} _ hk=>by
    rw [cB,List.getElem?_map,List.getElem?_map,List.getElem?_range (by omega)]
    rfl
  refine ⟨_,rfl,_,_,rfl,rfl,_,rfl,_,rfl,(n:Int) - 1,-1,-1,rfl,⟨by unfold l6;omega,by unfold l6;omega,by unfold l6;omega,by decide⟩,?_⟩
  rw [wp n hn]
  refine pJ (fun i σ H'=>(∃x5 x6,σ=[some (.ref M),some (.str (fB [a])),some (.int t),some (.int n),some (.ref S),x5,x6])∧(∀b o,b∉as→H1 b=some o→H' b=some o)∧y8 H' as (mO a (NH.ch t) f (n - i) 0))
    ⟨⟨_,_,rfl⟩,fun b o _ e=>e,fun j x hj=>?_⟩ (fun i σ H2 hi ⟨⟨x5,x6,es⟩,s2,d2⟩=>?_) fun σ H2 ⟨⟨x5,x6,es⟩,s2,d2⟩=>?_
  · have hj':j≤n:=by have:=(List.getElem?_eq_some_iff.mp hj).1;omega
    have e:mO a (NH.ch t) f (n - 0) 0 j=f j:=by
      unfold mO
      rw [Nat.sub_zero]
      split
      · rfl
      · rw [if_neg (Nat.not_lt_zero _),show j - n=0 by omega]
        rfl
    rw [e]
    exact s1 _ _ (hA j x hj)
  · subst es
    have eL:(n:Int) - 1+(i:Int)* -1=((n - i - 1:Nat):Int):=by omega
    refine ⟨_,rfl,_,rfl,_,_,rfl,rfl,_,_,rfl,rfl,1,_,rfl,⟨by omega,by omega,by omega,by omega⟩,?_⟩
    rw [eL]
    have ec:((n:Int) - ((n - i - 1:Nat):Int)+1 - 1).toNat=i+1:=by omega
    rw [ec]
    refine rB (lo:=1) (n:=i+1) (fun k σ H'=>(∃x6,σ=[some (.ref M),some (.str (fB [a])),some (.int t),some (.int n),some (.ref S),some (.int ((n - i - 1:Nat):Int)),x6])∧(∀b o,b∉as→H1 b=some o→H' b=some o)∧y8 H' as (mO a (NH.ch t) f (n - i) k))
      ⟨⟨_,rfl⟩,s2,d2⟩ (fun k σ H3 hk ⟨⟨y6,es⟩,s3,d3⟩=>?_) fun σ H3 ⟨⟨y6,es⟩,s3,d3⟩=>?_
    · subst es
      have ek:(1:Int)+(k:Int)=((k+1:Nat):Int):=by omega
      have S3:=s3 _ _ Sas hS1
      have M3:=s3 _ _ Mas (s1 _ _ hM)
      have gk:=gS S3 (show k+1≤n by omega)
      have same:∀j,j≠n - i+k→mO a (NH.ch t) f (n - i) (k+1) j=mO a (NH.ch t) f (n - i) k j:=fun j hj=>by
        unfold mO
        by_cases h1:j < n - i
        · rw [if_pos h1,if_pos h1]
        · rw [if_neg h1,if_neg h1]
          by_cases h2:j - (n - i) < k
          · rw [if_pos h2,if_pos (by omega)]
          · rw [if_neg h2,if_neg (by omega)]
      have e1:mO a (NH.ch t) f (n - i) k (n - i+k)=f8 a (NH.ch t) f (n - i+k) k:=by
        unfold mO
        rw [if_neg (by omega),if_neg (by omega),show n - i+k - (n - i)=k by omega]
      have e2:mO a (NH.ch t) f (n - i) (k+1) (n - i+k)=if NH.ch t (k+1)≠0 then ft (List.replicate (k+1) a) (NH.ch t (k+1)) (f (n - i - 1)) (f8 a (NH.ch t) f (n - i+k) k) else f8 a (NH.ch t) f (n - i+k) k:=by
        unfold mO
        rw [if_neg (by omega),if_pos (by omega),show n - i+k - (n - i)=k by omega]
        show (if NH.ch t (k+1)≠0 then ft (List.replicate (k+1) a) (NH.ch t (k+1)) (f (n - i+k - (k+1))) (f8 a (NH.ch t) f (n - i+k) k) else _)=_
        rw [show n - i+k - (k+1)=n - i - 1 by omega]
      have e3:mO a (NH.ch t) f (n - i) k (n - i - 1)=f (n - i - 1):=by
        unfold mO
        rw [if_pos (by omega)]
      refine ⟨_,rfl,_,rfl,S,_,_,_,rfl,rfl,SqL.of S3,by rw [ek];exact gk,rfl,_,rfl,?_⟩
      rw [ek]
      by_cases hg:NH.ch t (k+1)=0
      · refine (if_neg (by simp [hg])).mpr ⟨⟨_,rfl⟩,s3,fun j x hj=>?_⟩
        by_cases hj2:j=n - i+k
        · subst hj2
          rw [e2,if_neg (by simp [hg]),←e1]
          exact d3 _ _ hj
        · rw [same j hj2]
          exact d3 _ _ hj
      · refine (if_pos (by simp [hg])).mpr ?_
        obtain ⟨x1,hx1⟩:=at_ (n - i+k) (by omega)
        obtain ⟨x2,hx2⟩:=at_ (n - i - 1) (by omega)
        have ne:x1≠x2:=fun z=>by
          rw [z] at hx1
          have:=(List.getElem?_inj (List.getElem?_eq_some_iff.mp hx1).1 nd).mp (hx1.trans hx2.symm)
          omega
        have dx1:=d3 _ _ hx1
        have dx2:=d3 _ _ hx2
        rw [e1] at dx1
        rw [e3] at dx2
        have z1:=nT (a:=a) (g:=NH.ch t) (B:=100000) (fun j hj=>(hf j hj).1) (n - i+k) (by omega) k
        have z2:=(hf (n - i - 1) (by omega)).1
        refine ⟨_,rfl,_,rfl,_,rfl,_,_,rfl,rfl,M,_,_, .ref x1,rfl,rfl,SqL.of M3,?_,?_⟩
        · rw [show ((n - i - 1:Nat):Int)+((k+1:Nat):Int)=((n - i+k:Nat):Int) by omega]
          exact j8 hx1
        refine ⟨_,rfl,_,rfl,M,_,_, .ref x2,rfl,rfl,SqL.of M3,j8 hx2,?_⟩
        refine ⟨_,rfl,_,rfl,_,_,rfl,rfl,by rw [pF];simp,by omega,by omega,?_⟩
        rw [mul_one]
        refine ⟨_,rfl,_,rfl,S,_,_,_,rfl,rfl,SqL.of S3,gk,?_⟩
        refine ⟨x1,x2,_,f (n - i - 1),List.replicate (k+1) a,NH.ch t (k+1),rfl,ne,dx1,dx2,?_,fun p hp=>?_,fun H4 sb4 hx4=>⟨⟨_,rfl⟩,fun b o hb e=>?_,fun j x hj=>?_⟩⟩
        · have:(k+1)*100000≤8*100000:=Nat.mul_le_mul_right _ (by omega)
          omega
        · obtain ⟨h1,h2⟩:=(hf (n - i - 1) (by omega)).2 p hp
          exact ⟨by rw [List.length_replicate];omega,h2 _ (by omega)⟩
        · exact sb4 b o (fun z=>hb (by rw [z];exact List.mem_of_getElem? hx1)) (s3 b o hb e)
        · by_cases hj2:j=n - i+k
          · subst hj2
            rw [hx1] at hj
            cases hj
            rw [e2,if_pos hg]
            exact hx4
          · rw [same j hj2]
            refine sb4 x _ (fun z=>hj2 ?_) (d3 _ _ hj)
            rw [z] at hj
            exact (List.getElem?_inj (List.getElem?_eq_some_iff.mp hj).1 nd).mp (hj.trans hx1.symm)
    · subst es
      refine ⟨⟨_,_,rfl⟩,s3,fun j x hj=>?_⟩
      have hj':j≤n:=by have:=(List.getElem?_eq_some_iff.mp hj).1;omega
      have e:mO a (NH.ch t) f (n - (i+1)) 0 j=mO a (NH.ch t) f (n - i) (i+1) j:=by
        unfold mO
        by_cases h1:j < n - (i+1)
        · rw [if_pos h1,if_pos (by omega)]
        · rw [if_neg h1,if_neg (Nat.not_lt_zero _)]
          by_cases h2:j < n - i
          · rw [if_pos h2,show j - (n - (i+1))=0 by omega]
            rfl
          · rw [if_neg h2,if_pos (by omega),show j - (n - (i+1))=j - (n - i)+1 by omega]
      rw [e]
      exact d3 _ _ hj
  · subst es
    refine hD _ _ (q H2 (fun b o hb e=>s2 b o hb (s1 b o e)) fun j x hj=>?_)
    have e:mO a (NH.ch t) f (n - n) 0 j=f8 a (NH.ch t) f j j:=by
      unfold mO
      rw [Nat.sub_self,if_neg (Nat.not_lt_zero _),if_neg (Nat.not_lt_zero _),Nat.sub_zero]
    have:=d2 j x hj
    rw [e] at this
    exact this
end PL
namespace PL
open PySem L2 Nh PyProof.Rows
def sx:List PyData→Option (List (Nat×Int))
  | []=>some []
  | .tuple [.str x, .int t]::r=>match x.cps.toList with
    | [a]=>(sx r).map fun l=>(a,t)::l
    | _=>none
  | _=>none
def gL:Nat→Tb:=fun j=>if j=0 then [([],1)] else []
def u0 (p:Nat×Int) (f:Nat→Tb):Nat→Tb:=fun j=>f8 p.1 (NH.ch p.2) f j j
def sy:List (Nat×Int)→(Nat→Tb)→Nat→Tb
  | [],f=>f
  | p::c,f=>sy c (u0 p f)
def mD (pn:List PyData→Option Sl) (n:Nat):List (Nat×Int)→(Nat→Tb)→Prop
  | [],f=>(f n).length < 65536
  | p::c,f=>pK pn n f p∧mD pn n c (u0 p f)
open Classical in
def mE (sf pn:List PyData→Option Sl):List PyData→Option Sl:=fun ds=>match ds with
  | [.list cs, .int n]=>(match sf [.list cs] with
    | some (.ow ps)=>(sx ps).bind fun c=>if 0≤n∧n≤8∧mD pn n.toNat c gL then some (.ow ((cU (sy c gL n.toNat)).map bB)) else none
    | _=>none)
  | _=>none
abbrev u4 (K:PySem.W.Frag) (sf pn:List PyData→Option Sl):TS:=rn (sY (wL K (kr (fG K sf) [] E0 (cR (cg 0) ja))) (xC K 2 (mU (dL 3) (mU (dL 4) xB))) (pW (kr (At K pn) [] E0 (cR (cg 2) (cR (cg 3) (cR (cg 4) ja))))))
  (zc (zo zZ (cR (uV (ly (oO K) (cg 2) (cg 1))) ja)))
def Bb (K:PySem.W.Frag) (sf pn:List PyData→Option Sl):TS:=
  rn (oF (ly (kK K) (zk (cR (wV [(tC (.str ""),tC (.int 1))]) ja)) (jE [none] (sX (cR (cg 1) ja)) (dL 0) rM lV)) (dL 2))
  (u4 K sf pn)
theorem qL {K:PySem.W.Frag} {H:Hp}:∀{ds:List PyData} {c:List (Nat×Int)} {vs:List V},sx ds=some c→RpA K H vs ds→vs.length=c.length∧∀(i:Nat) (p:Nat×Int),c[i]? =some p→∃t,vs[i]? =some (V.ref t)∧SqT K H t [.str (fB [p.1]), .int p.2]
  | [],c,_,e, .nil=>by cases e;exact ⟨rfl,fun i p h=>by simp at h⟩
  | d::ds,c,_,e, .cons (x:=v) h r=>by
    unfold sx at e
    split at e
    · cases ‹d::ds=[]›
    · rename_i x t r' ec
      cases ec
      split at e
      · rename_i a ex
        obtain ⟨l,e1,rfl⟩:=Option.map_eq_some_iff.mp e
        obtain ⟨l1,l2⟩:=qL e1 r
        cases h with
        | tup h1 h2=>
          obtain ⟨v1,v2,rfl,r1,r2⟩:=h2.two
          cases r1
          cases r2
          have exx:x=fB [a]:=by
            have:fB x.cps.toList=x:=by cases x;simp [fB]
            rw [ex] at this
            exact this.symm
          subst exx
          refine ⟨by simp [l1],fun i p hp=>?_⟩
          cases i with
          | zero=>simp at hp;subst hp;exact ⟨_,rfl,h1⟩
          | succ i=>simpa using l2 i p (by simpa using hp)
      · cases e
    · cases e
theorem qM {K:PySem.W.Frag} {sf pn:List PyData→Option Sl} {H0:Hp} {vs:List V} {Q:VK} {E:XK} {D:Ends} {N:List Str} (h:fG K (mE sf pn) vs H0 Q E) (hD:∀v H',Q v H'→D.rt v H') (hN:N.length=5:=by rfl):vs.length=2∧Bb K sf pn D (L2.start N vs) H0:=by
  obtain ⟨ds,r,e,ra,q⟩:=h
  unfold mE at e
  split at e
  case h_2=>cases e
  rename_i cs n
  split at e
  case h_2=>cases e
  rename_i ps es
  obtain ⟨c,ec,e⟩:=Option.bind_eq_some_iff.mp e
  split at e
  case isFalse=>cases e
  rename_i hc
  cases e
  obtain ⟨hn0,hn8,hok⟩:=hc
  obtain ⟨v0,v1,rfl,r0,r1⟩:=ra.two
  cases r1
  obtain ⟨n,rfl⟩:∃m:Nat,n=m:=⟨n.toNat,by omega⟩
  rw [Int.toNat_natCast] at hok q
  refine ⟨rfl,?_⟩
  have hst:∀vs:List V,vs.length=2→L2.start N vs=vs.map some++[none,none,none]:=fun vs hv=>by unfold L2.start;rw [hN,hv];rfl
  rw [hst _ rfl]
  intro p hp
  refine ⟨upd_same,[(Sum.inr (fB []), .int 1)],rfl,(show 1≤15 by decide),by show 1≤sizeLine;exact dw (by decide),fun l0 hl0=>?_⟩
  have g0:Same H0 (upd (upd H0 p (.dK [])) p (.dK (dN (gL 0)))):=fun b o e=>by
    have:b≠p:=fun z=>by rw [z,hp] at e;cases e
    rw [ao this,ao this];exact e
  have p0:upd (upd H0 p (.dK [])) p (.dK (dN (gL 0))) p=some (.dK (dN (gL 0))):=upd_same
  have hl0':upd (upd H0 p (.dK [])) p (.dK (dN (gL 0))) l0=none:=hl0
  show jE [none] (sX (cR (cg 1) ja)) (dL 0) rM lV _ (upd (upd (upd H0 p (.dK [])) p (.dK (dN (gL 0)))) l0 (.lst [.ref p])) _
  generalize upd (upd H0 p (.dK [])) p (.dK (dN (gL 0)))=Ha at g0 p0 hl0'
  have s0:Same H0 (upd Ha l0 (.lst [.ref p])):=fun b o e=>cy hl0' _ b o (g0 b o e)
  have p1:upd Ha l0 (.lst [.ref p]) p=some (.dK (dN (gL 0))):=cy hl0' _ _ _ p0
  have q1:upd Ha l0 (.lst [.ref p]) l0=some (.lst [.ref p]):=upd_same
  generalize upd Ha l0 (.lst [.ref p])=H1 at s0 p1 q1
  refine ⟨_,rfl,(n:Int),rfl,by omega,by omega,fun l1 hl1=>?_⟩
  rw [Int.toNat_natCast]
  refine uX (lo:=0) (n:=n) (g:=dL 0) (tt:=rM) (te:=lV) (σi:=[none]) (Q:=fun y H2=>kK K (.ref l0) y H2 fun x H3=>u4 K sf pn D [some v0,some (.int n),some x,none,none] H3) (fun i σ H'=>(∃x,σ=[x])∧Same H1 H'∧∃as:List Addr,as.length=i∧as.Nodup∧H' l1=some (.lst (as.map V.ref))∧∀a∈as,H1 a=none∧a≠l1∧H' a=some (.dK []))
    ⟨⟨_,rfl⟩,cy hl1 _,[],rfl,List.nodup_nil,upd_same,fun _ z=>nomatch z⟩ (fun i σ H2 hi ⟨⟨x,ex⟩,s2,as,al,nd,hl,ha⟩=>?_) fun σ H2 ⟨⟨x,ex⟩,s2,as,al,nd,hl,ha⟩=>?_
  · subst ex
    refine rN ?_
    intro y hy
    have yo:∀{b:Addr} {o:HO},H2 b=some o→y≠b:=fun e z=>by rw [←z,hy] at e;cases e
    have s3:Same H2 (upd H2 y (.dK [])):=cy hy _
    refine ⟨_,s3 _ _ hl,by rw [List.length_map,al];exact small (by omega),⟨_,rfl⟩,fun b o e=>?_,as++[y],by simp [al],?_,by rw [upd_same,List.map_append];rfl,fun a ha'=>?_⟩
    · rw [ao (fun z=>by rw [z,hl1] at e;cases e)];exact s3 _ _ (s2 _ _ e)
    · exact List.nodup_append.mpr ⟨nd,by simp,fun a ha' b hb=>by rw [List.mem_singleton.mp hb];exact fun z=>yo (ha a ha').2.2 z.symm⟩
    · rcases List.mem_append.mp ha' with z | z
      · obtain ⟨z1,z2,z3⟩:=ha a z
        exact ⟨z1,z2,by rw [ao z2];exact s3 _ _ z3⟩
      · rw [List.mem_singleton.mp z]
        refine ⟨?_,yo hl,by rw [ao (yo hl)];exact upd_same⟩
        cases w:H1 y with
        | none=>rfl
        | some o=>exact absurd rfl (yo (s2 _ _ w))
  · subst ex
    refine .inr (.inr ⟨l0,l1,[.ref p],as.map V.ref,rfl,rfl,SqL.of (s2 _ _ q1),SqL.of hl,by rw [List.length_map,al];exact dw (by show 1+n≤_;omega),fun M hM=>?_⟩)
    have Mo:∀{b:Addr} {o:HO},H2 b=some o→M≠b:=fun e z=>by rw [←z,hM] at e;cases e
    have s3:Same H2 (upd H2 M (.lst ([.ref p]++as.map V.ref))):=cy hM _
    have hM3:upd H2 M (.lst ([.ref p]++as.map V.ref)) M=some (.lst ((p::as).map V.ref)):=upd_same
    have s03:Same H0 (upd H2 M (.lst ([.ref p]++as.map V.ref))):=fun b o e=>s3 _ _ (s2 _ _ (s0 _ _ e))
    have nd3:(p::as).Nodup:=List.nodup_cons.mpr ⟨fun z=>(by have:=(ha p z).1;rw [p1] at this;cases this),nd⟩
    have d3:y8 (upd H2 M (.lst ([.ref p]++as.map V.ref))) (p::as) gL:=fun j a hj=>by
      cases j with
      | zero=>cases hj;exact s3 _ _ (s2 _ _ p1)
      | succ j=>exact s3 _ _ (ha a (List.mem_of_getElem? (show as[j]? =some a from hj))).2.2
    have M3:M∉p::as:=fun z=>by
      rcases List.mem_cons.mp z with z | z
      · exact Mo (s2 _ _ p1) z
      · exact Mo (ha M z).2.2 rfl
    have f0:∀a∈p::as,H0 a=none:=fun a ha'=>by
      rcases List.mem_cons.mp ha' with z | z
      · rw [z];exact hp
      · cases w:H0 a with
        | none=>rfl
        | some o=>have:=s0 _ _ w;rw [(ha a z).1] at this;cases this
    have al3:(p::as).length=n+1:=by simp [al]
    generalize p::as=ad at hM3 nd3 d3 M3 al3 f0
    show u4 K sf pn D [some v0,some (.int n),some (.ref M),none,none] (upd H2 M (.lst ([.ref p]++as.map V.ref)))
    generalize upd H2 M (.lst ([.ref p]++as.map V.ref))=H3 at hM3 d3 s03
    refine ⟨_,rfl,[.list cs],_,es, .cons (r0.same s03) .nil,fun v H4 s4 ro=>?_⟩
    obtain ⟨S,us,rfl,hS3,hS4,rus⟩:=ro
    obtain ⟨lu,hu⟩:=qL ec rus
    have Sad:S∉ad:=fun z=>by
      obtain ⟨j,hj⟩:=List.getElem?_of_mem z
      rw [d3 j S hj] at hS3
      cases hS3
    have tad:∀a∈ad,tups H4 a=none:=fun a ha'=>by
      obtain ⟨j,hj⟩:=List.getElem?_of_mem ha'
      cases w:tups H4 a with
      | none=>rfl
      | some o=>
        obtain ⟨w1,w2⟩:=Option.filter_eq_some_iff.mp w
        rw [s4 _ _ (d3 j a hj)] at w1
        cases w1
        cases w2
    refine ⟨S,rfl,⟨us,SqL.of hS4⟩,?_⟩
    refine sZ (xs:=us) (fun i σ H'=>(∃x3 x4,σ=[some v0,some (.int n),some (.ref M),x3,x4])∧(∀b o,b∉ad→H4 b=some o→H' b=some o)∧∃f,y8 H' ad f∧sy (c.drop i) f=sy c gL∧mD pn n (c.drop i) f)
      ⟨⟨_,_,rfl⟩,fun b o _ e=>e,gL,fun j a hj=>s4 _ _ (d3 j a hj),rfl,hok⟩ (fun i σ H' _ ⟨_,h2,_⟩=>SqL.of (h2 _ _ Sad hS4)) (fun i u σ H5 hv ⟨⟨x3,x4,ex⟩,s5,f,d5,er,ok5⟩=>?_) fun σ H5 ⟨⟨x3,x4,ex⟩,s5,f,d5,er,ok5⟩=>?_
    · subst ex
      have hi:i < c.length:=by rw [←lu];exact (List.getElem?_eq_some_iff.mp hv).1
      obtain ⟨t,ht,hq⟩:=hu i c[i] (List.getElem?_eq_getElem hi)
      rw [hv] at ht
      cases ht
      have st5:Same (tups H4) H5:=fun b o e=>s5 b o (fun z=>by rw [tad b z] at e;cases e) (Option.filter_eq_some_iff.mp e).1
      rw [List.drop_eq_getElem_cons hi] at er ok5
      refine ⟨t,_,rfl,st5.tup hq,rfl,_,_,rfl,_,_,rfl,rfl,?_⟩
      refine ⟨_,rfl,_,rfl,_,rfl,M,c[i].1,c[i].2,ad,f,n,rfl,by omega,al3,nd3,s5 _ _ M3 (s4 _ _ hM3),M3,d5,ok5.1,fun H6 s6 d6=>⟨⟨_,_,rfl⟩,fun b o hb e=>s6 _ _ hb (s5 _ _ hb e),u0 c[i] f,d6,er,ok5.2⟩⟩
    · subst ex
      rw [lu,List.drop_length] at er ok5
      obtain ⟨a,ha5⟩:∃a,ad[n]? =some a:=⟨ad[n],List.getElem?_eq_getElem (by omega)⟩
      have hda:=d5 _ _ ha5
      have hM5:=s5 _ _ M3 (s4 _ _ hM3)
      have s05:Same H0 H5:=fun b o e=>s5 b o (fun z=>by rw [f0 b z] at e;cases e) (s4 _ _ (s03 _ _ e))
      refine ⟨_,rfl,_,rfl,M,_,_, .ref a,rfl,rfl,SqL.of hM5,j8 ha5,?_⟩
      refine ⟨a,_,rfl,hda,fun v hv=>⟨v,a,f n,rfl,upd_same,cy hv _ _ _ hda,ok5,fun l' cs' H6 ⟨g1,g2,g3⟩ hl6 hcs srt=>?_⟩⟩
      have g6:Same H0 H6:=fun b o e=>g1 _ _ (cy hv _ _ _ (s05 _ _ e))
      refine hD _ _ (q _ _ g6 ⟨l',_,rfl,?_,hl6,?_⟩)
      · cases z:H0 l' with
        | none=>rfl
        | some o=>have:=cy hv (lg v a) _ _ (s05 _ _ z);rw [g2] at this;cases this
      · have:=uY (K:=K) hcs
        rw [srt] at this
        have em':f=sy c gL:=er
        rw [←em']
        exact this
end PL
namespace PL
open NH
theorem wt (D:Tb) (k:List Nat) (n:Int) (w:List Nat):bS (if n=0 then iN D k else gK D k n) w=if w=k then n else bS D w:=by
  split
  · rename_i h;rw [uJ,h]
  · rw [uI]
def sL (t:List Nat) (m:Int) (w:List Nat):Tb→Int
  | []=>0
  | p::R=>(if p.1++t=w then p.2*m else 0)+sL t m w R
theorem nU (t:List Nat) (m:Int) (w:List Nat):∀R D:Tb,bS (ft t m R D) w=bS D w+sL t m w R
  | [],D=>by simp [ft,sL]
  | p::R,D=>by
    rw [ft,nU t m w R,wt,sL]
    by_cases e:w=p.1++t
    · rw [if_pos e,if_pos e.symm,e];omega
    · rw [if_neg e,if_neg (fun z=>e z.symm)];omega
theorem xi {t w:List Nat} {m:Int} (h:∀v,v++t≠w):∀R:Tb,sL t m w R=0
  | []=>rfl
  | p::R=>by rw [sL,if_neg (h p.1),xi h R];rfl
theorem xj (t:List Nat) (m:Int) (v:List Nat):∀R:Tb,Nd R→sL t m (v++t) R=bS R v*m
  | [],_=>by simp [sL,bS]
  | p::R,nd=>by
    simp only [Nd,List.map_cons,List.nodup_cons] at nd
    rw [sL,xj t m v R nd.2,bS]
    by_cases e:p.1=v
    · rw [if_pos (by rw [e]),if_pos e,qC (fun z=>nd.1 (e▸z))];omega
    · rw [if_neg (fun z=>e (List.append_cancel_right z)),if_neg e];omega
structure Tj (j:Nat) (D:Tb):Prop where
  nd:Nd D
  ok:∀p∈D,p.2≠0∧p.1.length=j
theorem yF {j:Nat} {D:Tb} (h:Tj j D) (k:List Nat) (hk:k.length=j) (n:Int):Tj j (if n=0 then iN D k else gK D k n):=by
  split
  · exact ⟨v9 h.nd k,fun p hp=>h.ok p (List.mem_filter.mp hp).1⟩
  · rename_i hn
    refine ⟨v8 h.nd k n,fun p hp=>?_⟩
    unfold gK at hp
    split at hp
    · obtain ⟨q,hq,e⟩:=List.mem_map.mp hp
      subst e
      split
      · rename_i e
        exact ⟨hn,by show q.1.length=j;exact (h.ok q hq).2⟩
      · exact h.ok q hq
    · rcases List.mem_append.mp hp with z | z
      · exact h.ok p z
      · rw [List.mem_singleton.mp z];exact ⟨hn,hk⟩
theorem qN {t:List Nat} {m:Int} {j:Nat}:∀{R D:Tb},(∀p∈R,p.1.length+t.length=j)→Tj j D→Tj j (ft t m R D)
  | [],D,_,h=>h
  | p::R,D,hR,h=>by
    unfold ft
    exact qN (R:=R) (fun q hq=>hR q (List.mem_cons_of_mem _ hq)) (yF h _ (by rw [List.length_append];exact hR p (List.mem_cons_self ..)) _)
def RT (c:List (Nat×Int)) (n:Nat) (f:Nat→Tb):Prop:=∀j,j≤n→Tj j (f j)∧∀w,w.length=j→bS (f j) w=aB w c
theorem nV (a:Nat):∀(r:List Nat) (k:Nat),k≤r.length→(k≤d_ a r↔r.take k=List.replicate k a)
  | r,0,_=>by simp
  | [],k+1,h=>by simp at h
  | b::r,k+1,h=>by
    have ih:=nV a r k (by simpa using h)
    rw [d_,List.take_succ_cons,List.replicate_succ]
    by_cases e:b=a
    · rw [if_pos e,List.cons.injEq]
      constructor
      · intro z;exact ⟨e,ih.mp (by omega)⟩
      · intro z;have:=ih.mpr z.2;omega
    · rw [if_neg e,List.cons.injEq]
      constructor
      · intro z;omega
      · intro z;exact absurd z.1 e
theorem qO (a:Nat) (w:List Nat) (k:Nat) (h:k≤w.length):k≤d_ a w.reverse↔w=w.take (w.length - k)++List.replicate k a:=by
  rw [nV a w.reverse k (by simpa using h),List.take_reverse]
  constructor
  · intro z
    have z':w.drop (w.length - k)=List.replicate k a:=by
      have:=congrArg List.reverse z
      rw [List.reverse_reverse,List.reverse_replicate] at this
      exact this
    rw [←z',List.take_append_drop]
  · intro z
    have:w.drop (w.length - k)=List.replicate k a:=by
      have e:=List.take_append_drop (w.length - k) w
      rw [z] at e
      have e2:w.take (w.length - k)++w.drop (w.length - k)=w.take (w.length - k)++List.replicate k a:=by rw [List.take_append_drop];exact z
      exact List.append_cancel_left e2
    rw [this,List.reverse_replicate]
theorem nW (h:Nat→Int) (L:Nat):∀c,L≤c→dJ (fun i=>if i < L then h i else 0) c=dJ h L
  | 0,hc=>by
    have:L=0:=by omega
    subst this
    rfl
  | c+1,hc=>by
    by_cases e:L=c+1
    · subst e
      exact fO _ fun j hj=>if_pos hj
    · rw [dJ,nW h L c (by omega),if_neg (by omega)];omega
theorem qP {a:Nat} {t:Int} {c:List (Nat×Int)} {n:Nat} {f:Nat→Tb} (h:RT c n f) (j:Nat) (hj:j≤n):∀k,k≤j→Tj j (f8 a (ch t) f j k)∧∀w,w.length=j→bS (f8 a (ch t) f j k) w=aB w c+dJ (fun i=>if i < d_ a w.reverse then aB (w.take (j - (i+1))) c*ch t (i+1) else 0) k
  | 0,_=>⟨(h j hj).1,fun w hw=>by rw [f8,(h j hj).2 w hw,dJ];omega⟩
  | k+1,hk=>by
    obtain ⟨t1,g1⟩:=qP h j hj (a:=a) (t:=t) k (by omega)
    obtain ⟨t2,g2⟩:=h (j - (k+1)) (by omega)
    unfold f8
    by_cases hg:ch t (k+1)=0
    · rw [if_neg (by simp [hg])]
      refine ⟨t1,fun w hw=>?_⟩
      rw [g1 w hw,dJ,hg]
      split <;> omega
    · rw [if_pos hg]
      refine ⟨qN (fun p hp=>by rw [(t2.ok p hp).2,List.length_replicate];omega) t1,fun w hw=>?_⟩
      rw [nU,g1 w hw,dJ]
      have key:sL (List.replicate (k+1) a) (ch t (k+1)) w (f (j - (k+1)))=if k < d_ a w.reverse then aB (w.take (j - (k+1))) c*ch t (k+1) else 0:=by
        by_cases e:k < d_ a w.reverse
        · have e':=(qO a w (k+1) (by omega)).mp e
          rw [hw] at e'
          rw [if_pos e]
          have s:=xj (List.replicate (k+1) a) (ch t (k+1)) (w.take (j - (k+1))) (f (j - (k+1))) t2.nd
          rw [←e'] at s
          rw [s,g2 _ (by rw [List.length_take];omega)]
        · rw [if_neg e]
          refine xi (fun v z=>e ?_) _
          have lv:v.length=w.length - (k+1):=by rw [←z,List.length_append,List.length_replicate];omega
          refine (qO a w (k+1) (by omega)).mpr ?_
          rw [←lv]
          rw [←z,List.take_left']
          rfl
      rw [key]
      omega
theorem RT.next {c:List (Nat×Int)} {n:Nat} {f:Nat→Tb} (h:RT c n f) (p:Nat×Int):RT (c++[p]) n (u0 p f):=fun j hj=>by
  obtain ⟨t1,g1⟩:=qP h j hj (a:=p.1) (t:=p.2) j (Nat.le_refl _)
  refine ⟨t1,fun w hw=>?_⟩
  have b:=j0 w c p w.length (Nat.le_refl _)
  unfold i6 at b
  rw [List.take_length] at b
  show bS (f8 p.1 (ch p.2) f j j) w=_
  rw [g1 w hw,b,nW _ _ j (by have:=mi p.1 w.reverse;simp at this;omega),hw]
theorem RT.start (n:Nat):RT [] n gL:=fun j hj=>by
  unfold gL
  by_cases e:j=0
  · subst e
    rw [if_pos rfl]
    refine ⟨⟨by simp [Nd],fun p hp=>by rw [List.mem_singleton.mp hp];exact ⟨by decide,rfl⟩⟩,fun w hw=>?_⟩
    rw [List.length_eq_zero_iff.mp hw];rfl
  · rw [if_neg e]
    refine ⟨⟨by simp [Nd],fun p hp=>nomatch hp⟩,fun w hw=>?_⟩
    cases w with
    | nil=>exact absurd hw.symm e
    | cons x w=>rfl
theorem qQ {g:List Nat→Int}:∀(w:List Nat) (f:List Nat→Int),conv f g w≠0→∃u v,w=u++v∧f u≠0∧g v≠0
  | [],f,h=>by
    refine ⟨[],[],rfl,fun z=>h ?_,fun z=>h ?_⟩
    · simp [conv,z]
    · simp [conv,z]
  | a::w,f,h=>by
    by_cases e:f []*g (a::w)=0
    · rw [conv,e,Int.zero_add] at h
      obtain ⟨u,v,e1,e2,e3⟩:=qQ w _ h
      exact ⟨a::u,v,by rw [e1];rfl,e2,e3⟩
    · exact ⟨[],a::w,rfl,fun z=>e (by rw [z];simp),fun z=>e (by rw [z];simp)⟩
theorem iR:∀(c:List (Nat×Int)) (w:List Nat),aB w c≠0→∀a∈w,a∈c.map (·.1)
  | [],w,h,a,ha=>by
    cases w with
    | nil=>cases ha
    | cons x w=>exact absurd rfl h
  | p::c,w,h,a,ha=>by
    rw [bL] at h
    obtain ⟨u,v,e,e1,e2⟩:=qQ w _ h
    rw [e] at ha
    rcases List.mem_append.mp ha with z | z
    · unfold di at e1
      split at e1
      · rename_i hu
        have:=List.all_eq_true.mp hu a z
        simp at this
        simp [this]
      · exact absurd rfl e1
    · exact List.mem_cons_of_mem _ (iR c v e2 a z)
def aF (ls:List Nat):Nat→List (List Nat)
  | 0=>[[]]
  | n+1=>(aF ls n).flatMap fun r=>ls.map fun x=>r++[x]
theorem fD (ls:List Nat):∀n,(aF ls n).length=ls.length ^ n
  | 0=>rfl
  | n+1=>by
    rw [aF,List.length_flatMap]
    have:(aF ls n).map (fun r=>(ls.map fun x=>r++[x]).length)=(aF ls n).map fun _=>ls.length:=by
      refine List.map_congr_left fun r _=>by simp
    rw [this]
    have k:∀L:List (List Nat),(L.map fun _=>ls.length).sum=L.length*ls.length:=fun L=>by
      induction L with
      | nil=>simp
      | cons x L ih=>simp only [List.map_cons,List.sum_cons,ih,List.length_cons,Nat.succ_mul];omega
    rw [k,fD ls n,Nat.pow_succ]
theorem dm (ls:List Nat):∀(n:Nat) (w:List Nat),w∈aF ls n↔w.length=n∧∀a∈w,a∈ls
  | 0,w=>by
    simp only [aF,List.mem_singleton]
    constructor
    · intro h;subst h;exact ⟨rfl,fun _ z=>nomatch z⟩
    · intro h;exact List.length_eq_zero_iff.mp h.1
  | n+1,w=>by
    rw [aF,List.mem_flatMap]
    constructor
    · rintro ⟨r,hr,hw⟩
      obtain ⟨x,hx,rfl⟩:=List.mem_map.mp hw
      obtain ⟨l,m⟩:=(dm ls n r).mp hr
      refine ⟨by simp [l],fun a ha=>?_⟩
      rcases List.mem_append.mp ha with z | z
      · exact m a z
      · rw [List.mem_singleton.mp z];exact hx
    · rintro ⟨l,m⟩
      have ne:w≠[]:=fun z=>by rw [z] at l;simp at l
      refine ⟨w.dropLast,(dm ls n _).mpr ⟨by simp [l],fun a ha=>m a (List.dropLast_subset w ha)⟩,List.mem_map.mpr ⟨w.getLast ne,m _ (List.getLast_mem ne),List.dropLast_concat_getLast ne⟩⟩
theorem nX {ls:List Nat} (h:ls.Nodup):∀n,(aF ls n).Nodup
  | 0=>by simp [aF]
  | n+1=>by
    have ih:=nX h n
    rw [aF]
    generalize aF ls n=L at ih
    induction L with
    | nil=>simp
    | cons r L il=>
      rw [List.flatMap_cons]
      obtain ⟨n1,n2⟩:=List.nodup_cons.mp ih
      refine List.nodup_append.mpr ⟨?_,il n2,fun a ha b hb z=>?_⟩
      · exact List.pairwise_map.mpr (h.imp fun {x y} hxy z=>hxy (by simpa using z))
      · subst z
        obtain ⟨x,_,e1⟩:=List.mem_map.mp ha
        obtain ⟨r',hr',hb⟩:=List.mem_flatMap.mp hb
        obtain ⟨y,_,e2⟩:=List.mem_map.mp hb
        have:r=r':=by
          have:=e1.trans e2.symm
          exact (List.append_inj' this rfl).1
        exact n1 (this▸hr')
def fE (ls:List Nat) (c:List (Nat×Int)) (n:Nat):Tb:=((aF ls n).map fun w=>(w,aB w c)).filter fun p=>p.2 != 0
theorem sC {ls:List Nat} (hls:ls.Nodup) {c c':List (Nat×Int)} (hc:∀w,aB w c'=aB w c) (hin:∀a∈c.map (·.1),a∈ls) {n:Nat} {f:Nat→Tb} (h:RT c' n f):cU (f n)=cU (fE ls c n):=by
  obtain ⟨t,g⟩:=h n (Nat.le_refl _)
  have nd1:(f n).Nodup:=(List.pairwise_map.mp t.nd).imp fun h z=>h (by rw [z])
  have nd2:(fE ls c n).Nodup:=by
    refine List.Pairwise.filter _ ?_
    exact List.pairwise_map.mpr ((nX hls n).imp fun {x y} hxy z=>hxy (by injection z))
  refine pB ((List.perm_ext_iff_of_nodup nd1 nd2).mpr fun p=>?_)
  have mem2:p∈fE ls c n↔(p.1.length=n∧∀a∈p.1,a∈ls)∧p.2=aB p.1 c∧p.2≠0:=by
    unfold fE
    rw [List.mem_filter,List.mem_map]
    constructor
    · rintro ⟨⟨w,hw,rfl⟩,h0⟩
      exact ⟨(dm ls n w).mp hw,rfl,by simpa using h0⟩
    · rintro ⟨h1,h2,h3⟩
      exact ⟨⟨p.1,(dm ls n p.1).mpr h1,Prod.ext rfl h2.symm⟩,by simpa using h3⟩
  rw [mem2]
  constructor
  · intro hp
    obtain ⟨h0,hl⟩:=t.ok p hp
    have e:=mj t.nd hp
    rw [g p.1 hl,hc] at e
    exact ⟨⟨hl,fun a ha=>hin a (iR c p.1 (by rw [e];exact h0) a ha)⟩,e.symm,h0⟩
  · rintro ⟨⟨hl,_⟩,e,h0⟩
    have e1:=g p.1 hl
    rw [hc,←e] at e1
    by_cases hk:p.1∈(f n).map (·.1)
    · obtain ⟨q,hq,eq⟩:=List.mem_map.mp hk
      have e2:=mj t.nd hq
      rw [eq,e1] at e2
      rw [show p=q from Prod.ext eq.symm e2]
      exact hq
    · rw [qC hk] at e1
      exact absurd e1.symm h0
theorem u5 {ls:List Nat} {c:List (Nat×Int)} (hin:∀a∈c.map (·.1),a∈ls) {n:Nat} {f:Nat→Tb} (h:RT c n f) (j:Nat) (hj:j≤n):(f j).length≤ls.length ^ j∧∀p∈f j,p.2=aB p.1 c∧p.1.length=j∧∀a∈p.1,a∈ls:=by
  obtain ⟨t,g⟩:=h j hj
  have key:∀p∈f j,p.2=aB p.1 c∧p.1.length=j∧∀a∈p.1,a∈ls:=fun p hp=>by
    obtain ⟨h0,hl⟩:=t.ok p hp
    have e:=mj t.nd hp
    rw [g p.1 hl] at e
    exact ⟨e.symm,hl,fun a ha=>hin a (iR c p.1 (by rw [e];exact h0) a ha)⟩
  refine ⟨?_,key⟩
  rw [←fD ls j,←List.length_map (f:=(·.1)) (as:=f j)]
  refine List.Nodup.length_le_of_subset t.nd fun w hw=>?_
  obtain ⟨p,hp,rfl⟩:=List.mem_map.mp hw
  exact (dm ls j p.1).mpr (key p hp).2
end PL
namespace Nhk16
open PySem L2 Nh PL
def aH:gj:=(dY 2 (bD (az 2) (bD (az 3) dX)))
def aI:c9:=(ap (ak 4 (ab 3))
  (ap (bw (gg (fJ (ab 1)) (cZ (af iz false (af dO false (af dO false (ab 1) (jk gI (pC (.int 1)))) (pC (.int 0))) (ab 2))))
  (ak 4 (af bh false (af dO false (lW 1) (pC (.int 1))) (ab 3)))
  bb)
  (bw (cZ (af kL false (ab 4) (pC (.int 0))))
  (bR (aG 1 (c_ (ar (ab 2) (ar (ab 4) aR)))))
  bb)))
def eM:c9:=(ap (ak 1 (cP aR))
  (ap (eK (dZ (ab 0)) aH
  aI)
  (bP (ab 1))))
def cc:List PyData→Option Sl:=g4 1 5 eM
def a_:gj:=(az 3)
def ba:c9:=(bR (aG 2 (af be false (af eZ false (af dO false (ab 2) (jk gI (pC (.int 1)))) (af bh false (af cO false (ab 0) (ab 3)) (pC (.int 1)))) (ab 3))))
def b_:c9:=(ap (ak 2 (cP (ar (pC (.int 1)) aR)))
  (ap (eK (jQ (ae false (pC (.int 1)) (ae false (af bh false (ab 1) (pC (.int 1))) aq))) a_
  ba)
  (bP (ab 2))))
def aE:List PyData→Option Sl:=g4 2 4 b_
def bM:List PyData→Option Sl:=mE cc aE
def iw:c9:=(ap (bw (cZ (af (dt (dR .lt)) false (ab 1) (ck dP (ae false (ab 0) aq))))
  (bP (af dO false (ab 0) (ab 1)))
  bb)
  (bP (pC (.int 0))))
def av:List PyData→Option Sl:=g4 2 2 iw
def gH:c9:=(ap (ak 2 (af bv false (af bh false (af bh false (af eZ false (af bv false (ab 0) (af jd false (pC (.int 10)) (pC (.int 40)))) (af bh false (pC (.int 62089911)) (af eZ false (pC (.int 2)) (ab 1)))) (af eZ false (pC (.int 982451653)) (ab 1))) (pC (.int 17))) (pC (.int 4294967291))))
  (bP (af bv false (af eZ false (ab 2) (af bh false (af bh false (af be false (ab 2) (pC (.int 1024))) (af eZ false (pC (.int 2)) (ab 1))) (pC (.int 1)))) (pC (.int 4294967279)))))
def dS:List PyData→Option Sl:=g4 2 3 gH
def cu:gj:=(dY 2 (bD (az 0) (bD (az 1) dX)))
def bE:b7:=(c_ (ar (ab 0) (ar (af cO false (pC (.int 0)) (ab 1)) aR)))
def dD:c9:=(bP (cT [none,none] (ud (ab 0)) cu cS bE))
def bj:List PyData→Option Sl:=g4 1 1 dD
def a8:gj:=(az 5)
def a9:c9:=(ap (ak 6 (ab 1))
  (ap (bw (fZ (cZ (af (dt (dR .lt)) false (ck oZ (ae false (ab 0) aq)) (af jd false (pC (.int 10)) (pC (.int 18))))) (cZ (gf (dR .lt) (dR .lt) false false (jk gI (pC (.int 28))) (ab 1) (pC (.int 28)))))
  (ak 6 (au dS (ae false (ab 0) (ae false (ab 5) aq))))
  bb)
  (ap (bR (aG 4 (c_ (ar (af dO false (pC (.str "abcz")) (af bv false (ab 6) (pC (.int 4)))) (ar (af cO false (af bv false (af be false (ab 6) (pC (.int 4))) (pC (.int 7))) (pC (.int 3))) aR)))))
  (ak 1 (af be false (ab 1) (pC (.int 28)))))))
def dE:c9:=(ap (ak 1 (af be false (ab 0) (pC (.int 5))))
  (ap (bw (cZ (af iz false (af bv false (ab 0) (pC (.int 5))) (pC (.int 2))))
  (ap (ak 2 (af dO false (pC (.str "abcdefghijklmnopqrstuvwxyz")) (af bv false (ab 1) (pC (.int 26)))))
  (bP (cP (ar (c_ (ar (ab 2) (ar (af cO false (af bv false (af be false (ab 1) (pC (.int 26))) (af cO false (af eZ false (pC (.int 2)) (af jd false (pC (.int 10)) (pC (.int 30)))) (pC (.int 1)))) (af cO false (af jd false (pC (.int 10)) (pC (.int 30))) (pC (.int 1)))) aR))) aR))))
  bb)
  (ap (ak 3 (af bv false (ab 1) (pC (.int 13))))
  (ap (ak 1 (af be false (ab 1) (pC (.int 13))))
  (ap (ak 4 (cP aR))
  (ap (eK (eS (ae false (ab 3) aq)) a8
  a9)
  (bP (ab 4))))))))
def bq:List PyData→Option Sl:=g4 1 7 dE
def aS:gj:=(az 5)
def aT:c9:=(ap (ak 6 (af bv false (af be false (ab 5) (pC (.int 5))) (af bh false (ck dP (ae false (ab 4) aq)) (pC (.int 1)))))
  (ap (bw (cZ (af iz false (af bv false (ab 5) (pC (.int 5))) (pC (.int 3))))
  (ak 4 (af bh false (ab 4) (au bj (ae false (gJ false (ab 4) (dW (ab 6)) e9) aq))))
  (bw (cZ (af iz false (af bv false (ab 5) (pC (.int 5))) (pC (.int 4))))
  (ap (ak 7 (au bq (ae false (af be false (ab 5) (pC (.int 5))) aq)))
  (ap (ak 7 (af bh false (ab 7) (au bj (ae false (ab 7) aq))))
  (ak 4 (af bh false (af bh false (gJ false (ab 4) e9 (dW (ab 6))) (ab 7)) (gJ false (ab 4) (dW (ab 6)) e9)))))
  (ak 4 (af bh false (ab 4) (au bq (ae false (ab 5) aq))))))
  (ak 4 (gJ false (ab 4) e9 (dW (ab 3))))))
def fR:c9:=(ap (ak 4 (cP aR))
  (ap (eK (dZ (af bh false (cP (ar (au av (ae false (ab 0) (ae false (ab 1) aq))) aR)) (gJ false (ab 0) (dW (af bh false (ab 1) (pC (.int 1)))) (dW (ab 2))))) aS
  aT)
  (bP (ab 4))))
def bX:List PyData→Option Sl:=g4 4 8 fR
def ce:gj:=(dY 2 (bD (az 2) (bD (az 3) dX)))
def cf:c9:=(bw (cZ (af (dt (dR .lt)) false (ab 3) (pC (.int 0))))
  (bR (aG 1 (c_ (ar (ab 2) (ar (af cO false (pC (.int 0)) (af bv false (af cO false (pC (.int 0)) (ab 3)) (pC (.int 1000)))) aR)))))
  (bR (aG 1 (c_ (ar (ab 2) (ar (af bv false (ab 3) (pC (.int 1000))) aR))))))
def eW:c9:=(ap (bw (cZ (af (dt (dR .lt)) false (ck dP (ae false (ab 0) aq)) (pC (.int 8))))
  (bP (ab 0))
  bb)
  (ap (ak 1 (cP aR))
  (ap (eK (dZ (ab 0)) ce
  cf)
  (bP (ab 1)))))
def bF:List PyData→Option Sl:=g4 1 4 eW
def ca:gj:=(az 4)
def cb:c9:=(ap (ak 2 (af eZ false (ab 2) (af cO false (ab 0) (ab 4))))
  (ak 3 (af eZ false (ab 3) (af bh false (ab 4) (pC (.int 1))))))
def eN:c9:=(ap (ak 2 (pC (.int 1)))
  (ap (ak 3 (pC (.int 1)))
  (ap (eK (eS (ae false (ab 1) aq)) ca
  cb)
  (bP (af be false (ab 2) (ab 3))))))
def bt:List PyData→Option Sl:=g4 2 5 eN
def bA:gO:=(gg (cZ (af (dt (dR .le)) false (ab 7) (ab 6))) (cZ (af iz false (af dO false (ab 0) (af cO false (ab 6) (ab 7))) (ab 3))))
def bU:c9:=(ap (ak 8 (au bt (ae false (ab 4) (ae false (ab 7) aq))))
  (ap (lX 5 (ab 6) (af bh false (af dO false (ab 5) (ab 6)) (af eZ false (af dO false (ab 2) (af cO false (ab 6) (ab 7))) (ab 8))))
  (ak 7 (af bh false (ab 7) (pC (.int 1))))))
def cD:gj:=(az 6)
def bV:c9:=(ap (ak 7 (pC (.int 1)))
  (iG bA bU))
def bW:gj:=(dY 2 (bD (az 3) (bD (az 4) dX)))
def cE:c9:=(ap (ak 5 (fk (ab 2)))
  (ap (eK (jQ (ae false (pC (.int 1)) (ae false (af bh false (ck dP (ae false (ab 0) aq)) (pC (.int 1))) aq))) cD
  bV)
  (ak 2 (ab 5))))
def ee:c9:=(ap (ak 2 (af bh false (cP (ar (pC (.int 1)) aR)) (af eZ false (cP (ar (pC (.int 0)) aR)) (ck dP (ae false (ab 0) aq)))))
  (ap (eK (dZ (ab 1)) bW
  cE)
  (bP (af dO false (ab 2) (ck dP (ae false (ab 0) aq))))))
def bG:List PyData→Option Sl:=g4 2 9 ee
def cV:gj:=(az 4)
def cW:c9:=(bR (aG 2 (af bh false (ab 3) (ab 4))))
def cX:gj:=(az 3)
def cY:c9:=(eK (dZ (ab 1)) cV
  cW)
def eX:c9:=(ap (ak 2 (cP aR))
  (ap (eK (dZ (ab 0)) cX
  cY)
  (bP (ab 2))))
def cF:List PyData→Option Sl:=g4 2 5 eX
def dF:gj:=(dY 2 (bD (az 4) (bD (az 5) dX)))
def dG:c9:=(bw (cZ (af (Ar true) false (ab 4) (ab 3)))
  (bR (aG 3 (ab 4)))
  bb)
def eO:gj:=(az 6)
def dH:c9:=(ak 2 (au cF (ae false (ab 2) (ae false (ab 3) aq))))
def bn:gj:=(az 0)
def aV:b7:=(c_ (ar (ab 0) (ar (au bG (ae false (ab 0) (ae false (ab 1) aq))) aR)))
def bd:gj:=(az 0)
def aW:b7:=(ab 0)
def aX:gO:=(cZ (af kL false (af dO false (ab 0) (pC (.int 1))) (pC (.int 0))))
def fF:c9:=(ap (ak 2 (cP (ar (pC (.str "")) aR)))
  (ap (ak 3 (cP aR))
  (ap (eK (dZ (ab 0)) dF
  dG)
  (ap (eK (eS (ae false (ab 1) aq)) eO
  dH)
  (ap (ak 7 (cT [none,some 0] (dZ (ab 2)) bn cS aV))
  (bP (iq (cT [none] (kT (ab 7)) bd aX aW))))))))
def b6:List PyData→Option Sl:=g4 2 8 fF
def cG:gj:=(az 2)
def cH:c9:=(ap (bw (fZ (gh (fJ (jk (nh .tuple) (af dO false (ab 0) (ab 2))))) (fZ (cZ (af kL false (ck dP (ae false (af dO false (ab 0) (ab 2)) aq)) (pC (.int 2)))) (gh (fJ (jk (nh .str) (af dO false (af dO false (ab 0) (ab 2)) (pC (.int 0))))))))
  (bP (pC (.bool false)))
  bb)
  (bw (fZ (gh (fJ (jk (nh .int) (af dO false (af dO false (ab 0) (ab 2)) (pC (.int 1)))))) (fZ (fJ (jk (nh .bool) (af dO false (af dO false (ab 0) (ab 2)) (pC (.int 1))))) (cZ (af kL false (af dO false (ab 0) (ab 2)) (af dO false (ab 1) (ab 2))))))
  (bP (pC (.bool false)))
  bb))
def fc:c9:=(ap (bw (fZ (gh (fJ (jk (nh .list) (ab 0)))) (cZ (af kL false (ck dP (ae false (ab 0) aq)) (ck dP (ae false (ab 1) aq)))))
  (bP (pC (.bool false)))
  bb)
  (ap (eK (eS (ae false (ck dP (ae false (ab 1) aq)) aq)) cG
  cH)
  (bP (pC (.bool true)))))
def aQ:List PyData→Option Sl:=g4 2 3 fc
def cI:gj:=(dY 2 (bD (az 0) (bD (az 1) dX)))
def bH:b7:=(c_ (ar (af dO false (pC (.str "mn")) (ck uv (ae false (af (dt (dR .gt)) false (ab 0) (pC (.str "b"))) aq))) (ar (ab 1) aR)))
def nY:c9:=(ap (ak 1 (au bF (ae false (au bX (ae false (ab 0) (ae false (pC (.int 0)) (ae false (pC (.int 63)) (ae false (pC (.int 12)) aq))))) aq)))
  (ap (ak 2 (af bv false (af be false (au av (ae false (ab 0) (ae false (pC (.int 1)) aq))) (pC (.int 3))) (pC (.int 3))))
  (ap (bw (cZ (af iz false (af bv false (au av (ae false (ab 0) (ae false (pC (.int 1)) aq))) (pC (.int 3))) (pC (.int 1))))
  (ap (ak 2 (af bh false (pC (.int 3)) (af bv false (af be false (au av (ae false (ab 0) (ae false (pC (.int 1)) aq))) (pC (.int 3))) (pC (.int 3)))))
  (ak 1 (gJ false (ab 1) e9 (dW (af dO false (cP (ar (pC (.int 8)) (ar (pC (.int 5)) (ar (pC (.int 4)) aR)))) (af cO false (ab 2) (pC (.int 3))))))))
  bb)
  (ap (bw (cZ (af iz false (af bv false (au av (ae false (ab 0) (ae false (pC (.int 1)) aq))) (pC (.int 3))) (pC (.int 2))))
  (ap (ak 2 (af bv false (af be false (au av (ae false (ab 0) (ae false (pC (.int 1)) aq))) (pC (.int 3))) (pC (.int 6))))
  (ak 1 (cT [none,none] (dZ (ab 1)) cI cS bH)))
  bb)
  (ap (ak 3 (au b6 (ae false (ab 1) (ae false (ab 2) aq))))
  (ap (ak 4 (fk (ab 1)))
  (ap (ak 5 (au bM (ae false (ab 4) (ae false (ab 2) aq))))
  (ap (bw (fZ (gh (fJ (au aQ (ae false (ab 5) (ae false (ab 3) aq))))) (cZ (af kL false (ab 4) (ab 1))))
  (bP (pC (.bool false)))
  bb)
  (ap (bR (aG 5 (c_ (ar (pC (.str "")) (ar (pC (.int 0)) aR)))))
  (bP (au aQ (ae false (au bM (ae false (ab 4) (ae false (ab 2) aq))) (ae false (ab 3) aq)))))))))))))
def g_:List PyData→Option Sl:=g4 1 6 nY
end Nhk16
namespace Nhk16
open PySem L2 Nh PL
def k9 (i:Nat):Stmt:=PySem.Challenge.pw_nailhang_k16_all_rows_of_a_length.main.body.getD i (.Pass ⟨0,0,0,0⟩)
section
variable {P:Program} {w:World} {K:PySem.W.Frag} {mg:Str→Option Value} {base:Heap}
abbrev fS:Stmt:=k9 1
theorem sc_short_form:FnScope ["cord","runs","nail","turns","total"] ["cord"] (aj fS):=⟨rfl,rfl,rfl,by decide+kernel,rfl,by decide+kernel,by decide+kernel⟩
theorem kf (D:Def K mg "short_form" fS ["cord"]) (B:Bn mg):Own P w K mg base 1 "short_form" ["cord"] (fG K cc):=by
  delta cc
  refine iE (g:=eM) D sc_short_form rfl rfl (by decide) fun f cdv A outer s H E hr=>?_
  delta eM
  exact (ah (aA 1 sc_short_form.nd (dM bC))
  (ah (dQ PassesOwn.never (by rfl) (fM (aa 0)) (by delta aH;exact (iD (by rfl) (b9 (aU 2 sc_short_form.nd) (b9 (aU 3 sc_short_form.nd) gC))))
  (by delta aI;exact (ah (aA 4 sc_short_form.nd (aa 3))
  (ah (eG (oU (tU (gZ (aa 1)) (qh (jI hr.units (cq (cq (aa 1) (oT ag)) ag) (aa 2)))))
  (am (aA 4 sc_short_form.nd (bx (cq (yg 1) ag) (aa 3))))
  cL)
  (am (eG (kM hr.units (aa 4) ag)
  (am (e_ (dg 1 (fK (aL (aa 2) (aL (aa 4) bC))))))
  cL))))))
  (am (bK (aa 1)))))
abbrev eF:Stmt:=k9 3
theorem sc_piece_numbers:FnScope ["turns","most","numbers","count"] ["turns","most"] (aj eF):=⟨rfl,rfl,rfl,by decide+kernel,rfl,by decide+kernel,by decide+kernel⟩
theorem iS (D:Def K mg "piece_numbers" eF ["turns","most"]) (B:Bn mg):Own P w K mg base 1 "piece_numbers" ["turns","most"] (fG K aE):=by
  delta aE
  refine iE (g:=b_) D sc_piece_numbers rfl rfl (by decide) fun f cdv A outer s H E hr=>?_
  delta b_
  exact (ah (aA 2 sc_piece_numbers.nd (dM (aL ag bC)))
  (ah (dQ PassesOwn.never (by rfl) (kQ (by rfl) (by exact B.range) (ai ag (ai (bx (aa 1) ag) aC))) (by delta a_;exact (aU 3 sc_piece_numbers.nd))
  (by delta ba;exact (am (e_ (dg 2 (cK (eR (cq (aa 2) (oT ag)) (bx (eC (aa 0) (aa 3)) ag)) (aa 3)))))))
  (am (bK (aa 2)))))
abbrev dI:Stmt:=k9 4
theorem sc_add_longer_rows:FnScope ["longer","rows","tail","times","row","number","total"] ["longer","rows","tail","times"] (aj dI):=⟨rfl,rfl,rfl,by decide+kernel,rfl,by decide+kernel,by decide+kernel⟩
theorem hE (D:Def K mg "add_longer_rows" dI ["longer","rows","tail","times"]) (B:Bn mg):Own P w K mg base 1 "add_longer_rows" ["longer","rows","tail","times"] As:=by
  have nd:=sc_add_longer_rows.nd
  refine D.own sc_add_longer_rows (fun vs H Q E h=>by obtain ⟨d,e,T,R,t,m,rfl,_⟩:=h;rfl) (fun f cdv A outer s H vs Q E hr h=>?_)
  have hu:=Nat.lt_of_le_of_lt (Nat.add_le_add_left (show 1≤64 by decide) _) hr.units
  refine ⟨_,du (wn (jz PassesOwn.never rfl (uR (yC (pv 1))) (oE rfl (f9 (eJ (i:=4) nd rfl (Or.inl rfl)) (f9 (eJ (i:=5) nd rfl (Or.inl rfl)) lj)))
    (fu (jx (i:=6) nd rfl (Or.inl rfl) (fw gB (t8 hu (pv 0) (fw gB (pv 4) (pv 2)) eu (by exact ⟨rfl,rfl,rfl,rfl⟩)) (fw qg (pv 5) (pv 3))))
    (du (sU (lA wN (pv 6) eu (jA _)) (du (jj (t9 (pv 0) (fw gB (pv 4) (pv 2)) eu (by exact ⟨rfl,rfl,rfl,rfl⟩)))) (du (vS hu (pv 0) (fw gB (pv 4) (pv 2)) (pv 6) rfl))))))),?_⟩
  exact wo h fun _ _ z=>z
abbrev cQ:Stmt:=k9 5
theorem sc_add_piece_to_rows:FnScope ["tables","nail","turns","most","single","length","count"] ["tables","nail","turns"] (aj cQ):=⟨rfl,rfl,rfl,by decide+kernel,rfl,by decide+kernel,by decide+kernel⟩
theorem gr (D:Def K mg "add_piece_to_rows" cQ ["tables","nail","turns"]) (B:Bn mg) (D_piece_numbers:Own P w K mg base 1 "piece_numbers" ["turns","most"] (fG K aE)) (D_add_longer_rows:Own P w K mg base 1 "add_longer_rows" ["longer","rows","tail","times"] As):Own P w K mg base 3 "add_piece_to_rows" ["tables","nail","turns"] (At K aE):=by
  have nd:=sc_add_piece_to_rows.nd
  refine D.own sc_add_piece_to_rows (fun vs H Q E h=>by obtain ⟨M,a,t,as,f,n,rfl,_⟩:=h;rfl) (fun f cdv A outer s H vs Q E hr h=>?_)
  refine ⟨_,fu (jx (i:=3) nd rfl (Or.inl rfl) (fw lz (f_ hW (by rfl) B.len PySem.boot_len (aK (pv 0) cw)) eu))
    (fu (jx (i:=4) nd rfl (Or.inl rfl) (jF D_piece_numbers (hr.mono (by decide)) (by rfl) (aK (pv 2) (aK (pv 3) cw))))
    (du (jz PassesOwn.never rfl (r8 (by rfl) B.range (aK (fw lz (pv 3) eu) (aK (s_ oJ eu) (aK (s_ oJ eu) cw)))) (eJ (i:=5) nd rfl (Or.inl rfl))
      (du (jz PassesOwn.never rfl (ko (by rfl) B.range (aK eu (aK (fw oI (fw lz (pv 3) (pv 5)) eu) cw))) (eJ (i:=6) nd rfl (Or.inl rfl))
        (du (sU (lA wO (kC ix_list (pv 4) (pv 6) (fun _ _=>rfl)) eu (jA _)) (du (jj (jF D_add_longer_rows (hr.mono (by decide)) (by rfl) (aK (kC ix_list (pv 0) (fw oI (pv 5) (pv 6)) (fun _ _=>rfl)) (aK (kC ix_list (pv 0) (pv 5) (fun _ _=>rfl)) (aK (fw v5 (pv 1) (pv 6)) (aK (kC ix_list (pv 4) (pv 6) (fun _ _=>rfl)) cw))))))) pV))))))),?_⟩
  exact wq h fun _ _ z=>z
abbrev iT:Stmt:=k9 6
theorem sc_rows_in:FnScope ["cord","length","tables","nail","turns"] ["cord","length"] (aj iT):=⟨rfl,rfl,rfl,by decide+kernel,rfl,by decide+kernel,by decide+kernel⟩
theorem pL (D:Def K mg "rows_in" iT ["cord","length"]) (B:Bn mg) (D_short_form:Own P w K mg base 1 "short_form" ["cord"] (fG K cc)) (D_add_piece_to_rows:Own P w K mg base 3 "add_piece_to_rows" ["tables","nail","turns"] (At K aE)):Own P w K mg base 5 "rows_in" ["cord","length"] (fG K bM):=by
  have nd:=sc_rows_in.nd
  refine D.own sc_rows_in (fun vs H Q E h=>(qM (D:={nx:=fun _ _=>False,rt:=Q}) (N:=["","","","",""]) h fun _ _ z=>z).1) (fun f cdv A outer s H vs Q E hr h=>?_)
  refine ⟨_,fu (jx (i:=2) nd rfl (Or.inl rfl) (fw gB (tB (aK (vU (tZ sS eu vT) rfl rfl (by simp) (by decide)) cw))
      (lM (N:=["count"]) (js:=[none]) fI rfl (km (by rfl) B.range (aK (pv 1) cw)) (fun _ _ _ _=>eJ (i:=0) (show (["count"]:List Str).Nodup by decide+kernel) rfl (Or.inl rfl)) (fun _ _ _ _=>lL) (fun _ _ _ _=>tY))))
    (fu (jz PassesOwn.never rfl (lq (jF D_short_form (hr.mono (by decide)) (by rfl) (aK (pv 0) cw))) (oE rfl (f9 (eJ (i:=3) nd rfl (Or.inl rfl)) (f9 (eJ (i:=4) nd rfl (Or.inl rfl)) lj))) (du (jj (jF D_add_piece_to_rows (hr.mono (by decide)) (by rfl) (aK (pv 2) (aK (pv 3) (aK (pv 4) cw)))))))
    (du (sT (f_ (mC rfl) (by rfl) B.sorted PyProof.Rows.boot_sorted (aK (uW (kC ix_list (pv 2) (pv 1) (fun _ _=>rfl))) cw))))),?_⟩
  exact (qM h fun _ _ z=>z).2
abbrev j9:Stmt:=k9 8
theorem sD:FnScope ["_law_script","_law_k"] ["_law_script","_law_k"] (aj j9):=⟨rfl,rfl,rfl,by decide+kernel,rfl,by decide+kernel,by decide+kernel⟩
theorem sE (D:Def K mg "_law_at" j9 ["_law_script","_law_k"]) (B:Bn mg):Own P w K mg base 1 "_law_at" ["_law_script","_law_k"] (fG K av):=by
  delta av
  refine iE (g:=iw) D sD rfl rfl (by decide) fun f cdv A outer s H E hr=>?_
  delta iw
  exact (ah (eG (nt .lt (aa 1) (fj (by rfl) (by exact B.len) (ai (aa 0) aC)))
  (am (bK (cq (aa 0) (aa 1))))
  cL)
  (am (bK ag)))
abbrev iU:Stmt:=k9 9
theorem sc_law_mix:FnScope ["_law_cell","_law_k","_law_one"] ["_law_cell","_law_k"] (aj iU):=⟨rfl,rfl,rfl,by decide+kernel,rfl,by decide+kernel,by decide+kernel⟩
theorem pM (D:Def K mg "_law_mix" iU ["_law_cell","_law_k"]) (B:Bn mg):Own P w K mg base 1 "_law_mix" ["_law_cell","_law_k"] (fG K dS):=by
  delta dS
  refine iE (g:=gH) D sc_law_mix rfl rfl (by decide) fun f cdv A outer s H E hr=>?_
  delta gH
  exact (ah (aA 2 sc_law_mix.nd (bZ (bx (bx (eR (bZ (aa 0) (lU ag ag)) (bx ag (eR ag (aa 1)))) (eR ag (aa 1))) ag) ag))
  (am (bK (bZ (eR (aa 2) (bx (bx (cK (aa 2) ag) (eR ag (aa 1))) ag)) ag))))
abbrev eY:Stmt:=k9 10
theorem jg:FnScope ["_law_cord_here"] ["_law_cord_here"] (aj eY):=⟨rfl,rfl,rfl,by decide+kernel,rfl,by decide+kernel,by decide+kernel⟩
theorem jh (D:Def K mg "_law_contrary" eY ["_law_cord_here"]) (B:Bn mg):Own P w K mg base 1 "_law_contrary" ["_law_cord_here"] (fG K bj):=by
  delta bj
  refine iE (g:=dD) D jg rfl rfl (by decide) fun f cdv A outer s H E hr=>?_
  delta dD
  exact (am (bK (uk (N:=["_law_nail","_law_turns"]) (js:=[none,none]) fI (by rfl) (yi (by rfl) (by exact B.reversed) (aa 0)) (fun _ _ _ _=>(by delta cu;exact (iD (by rfl) (b9 (aU 0 (show (["_law_nail","_law_turns"]:List Str).Nodup by decide+kernel)) (b9 (aU 1 (show (["_law_nail","_law_turns"]:List Str).Nodup by decide+kernel)) gC))))) (fun _ _ _ _=>(by delta bE;exact (fK (aL (aa 0) (aL (eC ag (aa 1)) bC))))))))
abbrev fT:Stmt:=k9 11
theorem sc_law_pieces:FnScope ["_law_cell","_law_rest","_law_nail","_law_many","_law_found","_law_k","_law_value"] ["_law_cell"] (aj fT):=⟨rfl,rfl,rfl,by decide+kernel,rfl,by decide+kernel,by decide+kernel⟩
theorem kg (D:Def K mg "_law_pieces" fT ["_law_cell"]) (B:Bn mg) (D_law_mix:Own P w K mg base 1 "_law_mix" ["_law_cell","_law_k"] (fG K dS)):Own P w K mg base 2 "_law_pieces" ["_law_cell"] (fG K bq):=by
  delta bq
  refine iE (g:=dE) D sc_law_pieces rfl rfl (by decide) fun f cdv A outer s H E hr=>?_
  delta dE
  exact (ah (aA 1 sc_law_pieces.nd (cK (aa 0) ag))
  (ah (eG (jI hr.units (bZ (aa 0) ag) ag)
  (ah (aA 2 sc_law_pieces.nd (cq iB (bZ (aa 1) ag)))
  (am (bK (dM (aL (fK (aL (aa 2) (aL (eC (bZ (cK (aa 1) ag) (eC (eR ag (lU ag ag)) ag)) (eC (lU ag ag) ag)) bC))) bC)))))
  cL)
  (ah (aA 3 sc_law_pieces.nd (bZ (aa 1) ag))
  (ah (aA 1 sc_law_pieces.nd (cK (aa 1) ag))
  (ah (aA 4 sc_law_pieces.nd (dM bC))
  (ah (dQ PassesOwn.never (by rfl) (gD (by rfl) (by exact B.range) (ai (aa 3) aC)) (by delta a8;exact (aU 5 sc_law_pieces.nd))
  (by delta a9;exact (ah (aA 6 sc_law_pieces.nd (aa 1))
  (ah (eG (oU (jK (nt .lt (yf (by rfl) (by exact B.abs) (ai (aa 0) aC)) (lU ag ag)) (jJ (zL .lt .lt (oT ag) (aa 1) ag))))
  (am (aA 6 sc_law_pieces.nd (bJ D_law_mix (hr.mono (by decide)) (by rfl) (ai (aa 0) (ai (aa 5) aC)))))
  cL)
  (ah (e_ (dg 4 (fK (aL (cq iB (bZ (aa 6) ag)) (aL (eC (bZ (cK (aa 6) ag) ag) ag) bC)))))
  (am (aA 1 sc_law_pieces.nd (cK (aa 1) ag))))))))
  (am (bK (aa 4)))))))))
abbrev hJ:Stmt:=k9 12
theorem sc_law_cord:FnScope ["_law_script","_law_first","_law_last","_law_most","_law_cord_here","_law_cell","_law_at_here","_law_pieces_here"] ["_law_script","_law_first","_law_last","_law_most"] (aj hJ):=⟨rfl,rfl,rfl,by decide+kernel,rfl,by decide+kernel,by decide+kernel⟩
theorem nZ (D:Def K mg "_law_cord" hJ ["_law_script","_law_first","_law_last","_law_most"]) (B:Bn mg) (D_law_at:Own P w K mg base 1 "_law_at" ["_law_script","_law_k"] (fG K av)) (D_law_contrary:Own P w K mg base 1 "_law_contrary" ["_law_cord_here"] (fG K bj)) (D_law_pieces:Own P w K mg base 2 "_law_pieces" ["_law_cell"] (fG K bq)):Own P w K mg base 3 "_law_cord" ["_law_script","_law_first","_law_last","_law_most"] (fG K bX):=by
  delta bX
  refine iE (g:=fR) D sc_law_cord rfl rfl (by decide) fun f cdv A outer s H E hr=>?_
  delta fR
  exact (ah (aA 4 sc_law_cord.nd (dM bC))
  (ah (dQ PassesOwn.never (by rfl) (fM (bx (dM (aL (bJ D_law_at (hr.mono (by decide)) (by rfl) (ai (aa 0) (ai (aa 1) aC))) bC)) (iK (aa 0) (fL (bx (aa 1) ag)) (fL (aa 2))))) (by delta aS;exact (aU 5 sc_law_cord.nd))
  (by delta aT;exact (ah (aA 6 sc_law_cord.nd (bZ (cK (aa 5) ag) (bx (fj (by rfl) (by exact B.len) (ai (aa 4) aC)) ag)))
  (ah (eG (jI hr.units (bZ (aa 5) ag) ag)
  (am (aA 4 sc_law_cord.nd (bx (aa 4) (bJ D_law_contrary (hr.mono (by decide)) (by rfl) (ai (iK (aa 4) (fL (aa 6)) h9) aC)))))
  (am (eG (jI hr.units (bZ (aa 5) ag) ag)
  (ah (aA 7 sc_law_cord.nd (bJ D_law_pieces (hr.mono (by decide)) (by rfl) (ai (cK (aa 5) ag) aC)))
  (ah (aA 7 sc_law_cord.nd (bx (aa 7) (bJ D_law_contrary (hr.mono (by decide)) (by rfl) (ai (aa 7) aC))))
  (am (aA 4 sc_law_cord.nd (bx (bx (iK (aa 4) h9 (fL (aa 6))) (aa 7)) (iK (aa 4) (fL (aa 6)) h9))))))
  (am (aA 4 sc_law_cord.nd (bx (aa 4) (bJ D_law_pieces (hr.mono (by decide)) (by rfl) (ai (aa 5) aC))))))))
  (am (aA 4 sc_law_cord.nd (iK (aa 4) h9 (fL (aa 3)))))))))
  (am (bK (aa 4)))))
abbrev hO:Stmt:=k9 13
theorem sc_law_tame:FnScope ["_law_cord_here","_law_found","_law_nail","_law_turns"] ["_law_cord_here"] (aj hO):=⟨rfl,rfl,rfl,by decide+kernel,rfl,by decide+kernel,by decide+kernel⟩
theorem n4 (D:Def K mg "_law_tame" hO ["_law_cord_here"]) (B:Bn mg):Own P w K mg base 1 "_law_tame" ["_law_cord_here"] (fG K bF):=by
  delta bF
  refine iE (g:=eW) D sc_law_tame rfl rfl (by decide) fun f cdv A outer s H E hr=>?_
  delta eW
  exact (ah (eG (nt .lt (fj (by rfl) (by exact B.len) (ai (aa 0) aC)) ag)
  (am (bK (aa 0)))
  cL)
  (ah (aA 1 sc_law_tame.nd (dM bC))
  (ah (dQ PassesOwn.never (by rfl) (fM (aa 0)) (by delta ce;exact (iD (by rfl) (b9 (aU 2 sc_law_tame.nd) (b9 (aU 3 sc_law_tame.nd) gC))))
  (by delta cf;exact (am (eG (nt .lt (aa 3) ag)
  (am (e_ (dg 1 (fK (aL (aa 2) (aL (eC ag (bZ (eC ag (aa 3)) ag)) bC))))))
  (am (e_ (dg 1 (fK (aL (aa 2) (aL (bZ (aa 3) ag) bC))))))))))
  (am (bK (aa 1))))))
abbrev fU:Stmt:=k9 14
theorem sc_law_chosen:FnScope ["_law_turns","_law_many","_law_above","_law_below","_law_k"] ["_law_turns","_law_many"] (aj fU):=⟨rfl,rfl,rfl,by decide+kernel,rfl,by decide+kernel,by decide+kernel⟩
theorem kh (D:Def K mg "_law_chosen" fU ["_law_turns","_law_many"]) (B:Bn mg):Own P w K mg base 1 "_law_chosen" ["_law_turns","_law_many"] (fG K bt):=by
  delta bt
  refine iE (g:=eN) D sc_law_chosen rfl rfl (by decide) fun f cdv A outer s H E hr=>?_
  delta eN
  exact (ah (aA 2 sc_law_chosen.nd ag)
  (ah (aA 3 sc_law_chosen.nd ag)
  (ah (dQ PassesOwn.never (by rfl) (gD (by rfl) (by exact B.range) (ai (aa 1) aC)) (by delta ca;exact (aU 4 sc_law_chosen.nd))
  (by delta cb;exact (ah (aA 2 sc_law_chosen.nd (eR (aa 2) (eC (aa 0) (aa 4))))
  (am (aA 3 sc_law_chosen.nd (eR (aa 3) (bx (aa 4) ag)))))))
  (am (bK (cK (aa 2) (aa 3)))))))
abbrev gu:Stmt:=k9 15
theorem sc_law_times:FnScope ["_law_row","_law_cord_here","_law_sums","_law_nail","_law_turns","_law_later","_law_end","_law_many","_law_more_here"] ["_law_row","_law_cord_here"] (aj gu):=⟨rfl,rfl,rfl,by decide+kernel,rfl,by decide+kernel,by decide+kernel⟩
theorem mF (D:Def K mg "_law_times" gu ["_law_row","_law_cord_here"]) (B:Bn mg) (D_law_chosen:Own P w K mg base 1 "_law_chosen" ["_law_turns","_law_many"] (fG K bt)):Own P w K mg base 2 "_law_times" ["_law_row","_law_cord_here"] (fG K bG):=by
  delta bG
  refine iE (g:=ee) D sc_law_times rfl rfl (by decide) fun f cdv A outer s H E hr=>?_
  delta ee
  exact (ah (aA 2 sc_law_times.nd (bx (dM (aL ag bC)) (eR (dM (aL ag bC)) (fj (by rfl) (by exact B.len) (ai (aa 0) aC)))))
  (ah (dQ PassesOwn.never (by rfl) (fM (aa 1)) (by delta bW;exact (iD (by rfl) (b9 (aU 3 sc_law_times.nd) (b9 (aU 4 sc_law_times.nd) gC))))
  (by delta cE;exact (ah (aA 5 sc_law_times.nd (qk (by rfl) (by exact B.list) (aa 2)))
  (ah (dQ PassesOwn.never (by rfl) (kQ (by rfl) (by exact B.range) (ai ag (ai (bx (fj (by rfl) (by exact B.len) (ai (aa 0) aC)) ag) aC))) (by delta cD;exact (aU 6 sc_law_times.nd))
  (by delta bV;exact (ah (aA 7 sc_law_times.nd ag)
  (am (uu PassesOwn.never (by delta bA;exact (oU (tU (nt .le (aa 7) (aa 6)) (qh (jI hr.units (cq (aa 0) (eC (aa 6) (aa 7))) (aa 3))))))
  (by delta bU;exact (ah (aA 8 sc_law_times.nd (bJ D_law_chosen (hr.mono (by decide)) (by rfl) (ai (aa 4) (ai (aa 7) aC))))
  (ah (uc 5 (bx (cq (aa 5) (aa 6)) (eR (cq (aa 2) (eC (aa 6) (aa 7))) (aa 8))) (aa 6))
  (am (aA 7 sc_law_times.nd (bx (aa 7) ag)))))))))))
  (am (aA 2 sc_law_times.nd (aa 5)))))))
  (am (bK (cq (aa 2) (fj (by rfl) (by exact B.len) (ai (aa 0) aC)))))))
abbrev hU:Stmt:=k9 17
theorem sc_law_more:FnScope ["_law_rows","_law_nails","_law_found","_law_row","_law_nail"] ["_law_rows","_law_nails"] (aj hU):=⟨rfl,rfl,rfl,by decide+kernel,rfl,by decide+kernel,by decide+kernel⟩
theorem n6 (D:Def K mg "_law_more" hU ["_law_rows","_law_nails"]) (B:Bn mg):Own P w K mg base 1 "_law_more" ["_law_rows","_law_nails"] (fG K cF):=by
  delta cF
  refine iE (g:=eX) D sc_law_more rfl rfl (by decide) fun f cdv A outer s H E hr=>?_
  delta eX
  exact (ah (aA 2 sc_law_more.nd (dM bC))
  (ah (dQ PassesOwn.never (by rfl) (fM (aa 0)) (by delta cX;exact (aU 3 sc_law_more.nd))
  (by delta cY;exact (am (dQ PassesOwn.never (by rfl) (fM (aa 1)) (by delta cV;exact (aU 4 sc_law_more.nd))
  (by delta cW;exact (am (e_ (dg 2 (bx (aa 3) (aa 4))))))))))
  (am (bK (aa 2)))))
abbrev iV:Stmt:=k9 16
theorem sc_law_due:FnScope ["_law_cord_here","_law_length","_law_rows","_law_nails","_law_nail","_law_turns","_law_k","_law_found"] ["_law_cord_here","_law_length"] (aj iV):=⟨rfl,rfl,rfl,by decide+kernel,rfl,by decide+kernel,by decide+kernel⟩
theorem pN (D:Def K mg "_law_due" iV ["_law_cord_here","_law_length"]) (B:Bn mg) (D_law_more:Own P w K mg base 1 "_law_more" ["_law_rows","_law_nails"] (fG K cF)) (D_law_times:Own P w K mg base 2 "_law_times" ["_law_row","_law_cord_here"] (fG K bG)):Own P w K mg base 3 "_law_due" ["_law_cord_here","_law_length"] (fG K b6):=by
  delta b6
  refine iE (g:=fF) D sc_law_due rfl rfl (by decide) fun f cdv A outer s H E hr=>?_
  delta fF
  exact (ah (aA 2 sc_law_due.nd (dM (aL iB bC)))
  (ah (aA 3 sc_law_due.nd (dM bC))
  (ah (dQ PassesOwn.never (by rfl) (fM (aa 0)) (by delta dF;exact (iD (by rfl) (b9 (aU 4 sc_law_due.nd) (b9 (aU 5 sc_law_due.nd) gC))))
  (by delta dG;exact (am (eG (yp (aa 4) (aa 3))
  (am (e_ (dg 3 (aa 4))))
  cL))))
  (ah (dQ PassesOwn.never (by rfl) (gD (by rfl) (by exact B.range) (ai (aa 1) aC)) (by delta eO;exact (aU 6 sc_law_due.nd))
  (by delta dH;exact (am (aA 2 sc_law_due.nd (bJ D_law_more (hr.mono (by decide)) (by rfl) (ai (aa 2) (ai (aa 3) aC)))))))
  (ah (nk 7 sc_law_due.nd (N:=["_law_row","_law_cord_here"]) (js:=[none,some 0]) uw (by rfl) (fM (aa 2)) (fun _ _ _ _=>(by delta bn;exact (aU 0 (show (["_law_row","_law_cord_here"]:List Str).Nodup by decide+kernel)))) (fun _ _ _ _=>(by delta aV;exact (fK (aL (aa 0) (aL (bJ D_law_times (hr.mono (by decide)) (by rfl) (ai (aa 0) (ai (aa 1) aC))) bC))))))
  (am (bK (pI (by rfl) (by exact B.sorted) (rT (N:=["_law_pair"]) (js:=[none]) fI (by rfl) (vX (aa 7)) (fun _ _ _ _=>(by delta bd;exact (aU 0 (show (["_law_pair"]:List Str).Nodup by decide+kernel)))) (fun _ _ _ _=>(by delta aX;exact (kM hr.units (cq (aa 0) ag) ag))) (fun _ _ _ _=>(by delta aW;exact (aa 0))))))))))))
abbrev gv:Stmt:=k9 18
theorem sc_law_right:FnScope ["_law_found","_law_due_here","_law_k"] ["_law_found","_law_due_here"] (aj gv):=⟨rfl,rfl,rfl,by decide+kernel,rfl,by decide+kernel,by decide+kernel⟩
theorem mG (D:Def K mg "_law_right" gv ["_law_found","_law_due_here"]) (B:Bn mg):Own P w K mg base 1 "_law_right" ["_law_found","_law_due_here"] (fG K aQ):=by
  delta aQ
  refine iE (g:=fc) D sc_law_right rfl rfl (by decide) fun f cdv A outer s H E hr=>?_
  delta fc
  exact (ah (eG (oU (jK (jL (gZ (jP .list (by rfl) (by exact B.isinstance) (aa 0) (by rfl) (by exact B.list) PyProof.Rows.boot_list))) (jJ (kM hr.units (fj (by rfl) (by exact B.len) (ai (aa 0) aC)) (fj (by rfl) (by exact B.len) (ai (aa 1) aC))))))
  (am (bK m8))
  cL)
  (ah (dQ PassesOwn.never (by rfl) (gD (by rfl) (by exact B.range) (ai (fj (by rfl) (by exact B.len) (ai (aa 1) aC)) aC)) (by delta cG;exact (aU 2 sc_law_right.nd))
  (by delta cH;exact (ah (eG (oU (jK (jL (gZ (jP .tuple (by rfl) (by exact B.isinstance) (cq (aa 0) (aa 2)) (by rfl) (by exact B.tuple) PyProof.Rows.boot_tuple))) (jK (kM hr.units (fj (by rfl) (by exact B.len) (ai (cq (aa 0) (aa 2)) aC)) ag) (jJ (jL (gZ (jP .str (by rfl) (by exact B.isinstance) (cq (cq (aa 0) (aa 2)) ag) (by rfl) (by exact B.str) PyProof.Rows.boot_str)))))))
  (am (bK m8))
  cL)
  (am (eG (oU (jK (jL (gZ (jP .int (by rfl) (by exact B.isinstance) (cq (cq (aa 0) (aa 2)) ag) (by rfl) (by exact B.int) PyProof.Rows.boot_int))) (jK (gZ (jP .bool (by rfl) (by exact B.isinstance) (cq (cq (aa 0) (aa 2)) ag) (by rfl) (by exact B.bool) PyProof.Rows.boot_bool)) (jJ (kM hr.units (cq (aa 0) (aa 2)) (cq (aa 1) (aa 2)))))))
  (am (bK m8))
  cL)))))
  (am (bK m8))))
abbrev j_:Stmt:=k9 19
theorem sc_law:FnScope ["_law_script","_law_cord_here","_law_length","_law_due_here","_law_handed","_law_found"] ["_law_script"] (aj j_):=⟨rfl,rfl,rfl,by decide+kernel,rfl,by decide+kernel,by decide+kernel⟩
theorem yG {f0:Addr} {fd:FuncData} (D:Fun K "law" "law" j_ f0 fd) (B:Bn mg) (D_law_cord:Own P w K mg base 3 "_law_cord" ["_law_script","_law_first","_law_last","_law_most"] (fG K bX)) (D_law_tame:Own P w K mg base 1 "_law_tame" ["_law_cord_here"] (fG K bF)) (D_law_at:Own P w K mg base 1 "_law_at" ["_law_script","_law_k"] (fG K av)) (D_law_due:Own P w K mg base 3 "_law_due" ["_law_cord_here","_law_length"] (fG K b6)) (D_rows_in:Own P w K mg base 5 "rows_in" ["cord","length"] (fG K bM)) (D_law_right:Own P w K mg base 1 "_law_right" ["_law_found","_law_due_here"] (fG K aQ)):FnOk P w K mg base sP 6 f0 fd ["_law_script"] (fG K g_):=by
  delta g_
  refine Bx (g:=nY) D sc_law rfl rfl (by decide) fun cdv A outer s H E hr=>?_
  delta nY
  exact (ah (aA 1 sc_law.nd (bJ D_law_tame (hr.mono (by decide)) (by rfl) (ai (bJ D_law_cord (hr.mono (by decide)) (by rfl) (ai (aa 0) (ai ag (ai ag (ai ag aC))))) aC)))
  (ah (aA 2 sc_law.nd (bZ (cK (bJ D_law_at (hr.mono (by decide)) (by rfl) (ai (aa 0) (ai ag aC))) ag) ag))
  (ah (eG (jI hr.units (bZ (bJ D_law_at (hr.mono (by decide)) (by rfl) (ai (aa 0) (ai ag aC))) ag) ag)
  (ah (aA 2 sc_law.nd (bx ag (bZ (cK (bJ D_law_at (hr.mono (by decide)) (by rfl) (ai (aa 0) (ai ag aC))) ag) ag)))
  (am (aA 1 sc_law.nd (iK (aa 1) h9 (fL (cq (dM (aL ag (aL ag (aL ag bC)))) (eC (aa 2) ag)))))))
  cL)
  (ah (eG (jI hr.units (bZ (bJ D_law_at (hr.mono (by decide)) (by rfl) (ai (aa 0) (ai ag aC))) ag) ag)
  (ah (aA 2 sc_law.nd (bZ (cK (bJ D_law_at (hr.mono (by decide)) (by rfl) (ai (aa 0) (ai ag aC))) ag) ag))
  (am (nk 1 sc_law.nd (N:=["_law_nail","_law_turns"]) (js:=[none,none]) fI (by rfl) (fM (aa 1)) (fun _ _ _ _=>(by delta cI;exact (iD (by rfl) (b9 (aU 0 (show (["_law_nail","_law_turns"]:List Str).Nodup by decide+kernel)) (b9 (aU 1 (show (["_law_nail","_law_turns"]:List Str).Nodup by decide+kernel)) gC))))) (fun _ _ _ _=>(by delta bH;exact (fK (aL (cq iB (vZ (by rfl) (by exact B.int) (ai (zK .gt (aa 0) iB) aC))) (aL (aa 1) bC))))))))
  cL)
  (ah (aA 3 sc_law.nd (bJ D_law_due (hr.mono (by decide)) (by rfl) (ai (aa 1) (ai (aa 2) aC))))
  (ah (aA 4 sc_law.nd (qk (by rfl) (by exact B.list) (aa 1)))
  (ah (aA 5 sc_law.nd (bJ D_rows_in (hr.mono (by decide)) (by rfl) (ai (aa 4) (ai (aa 2) aC))))
  (ah (eG (oU (jK (jL (gZ (bJ D_law_right (hr.mono (by decide)) (by rfl) (ai (aa 5) (ai (aa 3) aC))))) (jJ (kM hr.units (aa 4) (aa 1)))))
  (am (bK m8))
  cL)
  (ah (e_ (dg 5 (fK (aL iB (aL ag bC)))))
  (am (bK (bJ D_law_right (hr.mono (by decide)) (by rfl) (ai (bJ D_rows_in (hr.mono (by decide)) (by rfl) (ai (aa 4) (ai (aa 2) aC))) (ai (aa 3) aC))))))))))))))
end
end Nhk16
namespace Nhk16
open PySem L2 Nh PL
theorem lh (ns:List Int) (k:Nat):av [.list (ns.map .int), .int k]=some (.sh (.int (ns.getD k 0))):=by
  simp only [av,g4,List.length_cons,List.length_nil,Nat.zero_add,Nat.reduceAdd,je,iw,ap,bw,cZ,af,ab,cA,List.map_cons,List.map_nil,Nat.sub_self,List.replicate,List.cons_append,List.nil_append,List.getElem?_cons_succ,List.getElem?_cons_zero,Sl.isBr,Bool.false_and,Bool.false_eq_true,ck,ae,aq,Option.map_some,if_false,dP,dt,look,Sl.val,dR,Cm.i,Cm.s,Option.bind_some,aZ,bP,dO,df,bI,bb,pC,dC,cM,if_true]
  by_cases h:k < ns.length
  · simp [h,cB,cJ,dC,cM]
  · simp [h,List.getElem?_eq_none (Nat.le_of_not_lt h),cJ,dC,cM]
theorem pO (cell:Int) (k:Nat) (h:k≤1000000):∃z:Int,dS [.int cell, .int k]=some (.sh (.int z)):=by
  have a1:∀i:Int,bN i (62089911+2*(k:Int))=true:=fun i=>jn (by omega) (by omega)
  have a2:bN 982451653 (k:Int)=true:=jn (by omega) (by omega)
  have a3:bN 2 (k:Int)=true:=jn (by omega) (by omega)
  have a4:∀i j:Int,bN (i % 4294967291) j=true:=fun i j=>qx (by have:=Int.emod_nonneg i (show (4294967291:Int)≠0 by decide);omega) (by have:=Int.emod_lt_of_pos i (show (0:Int) < 4294967291 by decide);omega)
  have d1:eQ 1024=true:=by decide
  simp only [dS,g4,List.length_cons,List.length_nil,Nat.zero_add,Nat.reduceAdd,je,gH,ap,ak,af,ab,cA,List.map_cons,List.map_nil,Nat.reduceSub,List.replicate,List.cons_append,List.nil_append,List.getElem?_cons_zero,Sl.isBr,Bool.false_and,Bool.false_eq_true,pC,jd,dt,look,Sl.val,gP,Int.reducePow,Int.reduceNeg,Option.bind_some,if_false,Int.reduceLE,Int.reduceLT,and_self,decide_true,Int.reduceToNat,if_true,Option.map_some,bv,eZ,df,bI,Bool.not_false,Bool.true_or,Bool.and_true,bh,List.getElem?_cons_succ,a3,a1,a2,PL.settle,frz,frzAll,Nat.reduceLT,List.set_cons_succ,List.set_cons_zero,bP,be,d1,a4,dC,cM,cJ]
  exact ⟨_,rfl⟩
theorem fX:∀(d:List Pc) (x0 x1:Sl),cr cu cS bE (d.map aw) [x0,x1]=some ((d.map fun p=>((p.1,-p.2):Pc)).map aw)
  | [],x0,x1=>rfl
  | p::d,x0,x1=>by
    have e:(cu (aw p) [x0,x1])=some [.sh (.str ⟨#[p.1]⟩), .sh (.int p.2)]:=rfl
    have e2:bE [.sh (.str ⟨#[p.1]⟩), .sh (.int p.2)]=some (.sh (aw (p.1,-p.2)),[.sh (.str ⟨#[p.1]⟩), .sh (.int p.2)]):=by
      simp only [bE,c_,ar,ab,List.getElem?_cons_zero,frz,af,pC,Sl.isBr,Bool.false_and,Bool.false_eq_true,cO,dt,look,Sl.val,gP,if_true,if_false,Option.bind_some,aR,Option.map_some,List.getElem?_cons_succ,Int.zero_sub,List.length_cons,List.length_nil,Nat.zero_add,Nat.reduceAdd,Nat.reduceLeDiff,aw]
    rw [List.map_cons,cr,e,Option.bind_some]
    simp only [cS,frz,Option.bind_some,e2,fX d,Option.map_some,if_true,List.map_cons]
theorem fY (c:List Pc) (h:c.length≤1000000):bj [.list (c.map aw)]=some (.ow ((NH.contr c).map aw)):=by
  have hl:(NH.contr c).length=c.length:=NH.dv c
  have e:(c.reverse.map fun p=>((p.1,-p.2):Pc))=NH.contr c:=rfl
  have k:=fX c.reverse .no .no
  rw [e,List.map_reverse] at k
  simp only [bj,g4,List.length_cons,List.length_nil,Nat.zero_add,je,dD,bP,cT,ud,ab,cA,List.map_cons,List.map_nil,Nat.sub_self,List.replicate,List.cons_append,List.nil_append,List.getElem?_cons_zero,frz,Option.bind_some,jT,uf,k,cC,List.length_map,hl,h,decide_true,Bool.and_true,if_true,dC,cM]
theorem gT (cell:Int) (x2 x3:Sl):∀(n lo:Nat) (bO:Int) (c:List Pc) (a b:Sl),lo+n≤1000→c.length+n≤1000→CordOk c→
    ∃(rest':Int) (c':List Pc) (a' b':Sl),bg a8 a9 (gl lo n) [.sh (.int cell), .sh (.int bO),x2,x3, .ow (c.map aw),a,b]=some ([.sh (.int cell), .sh (.int rest'),x2,x3, .ow (c'.map aw),a',b'], .nx)∧c'.length=c.length+n∧CordOk c'
  | 0,lo,bO,c,a,b,_,_,hN=>⟨bO,c,a,b,rfl,rfl,hN⟩
  | n+1,lo,bO,c,a,b,h1,h2,hN=>by
    obtain ⟨z,ez⟩:=pO cell lo (by omega)
    have dd:eQ 4=true∧eQ 28=true:=by decide
    have step:∃v:Int,(a8 (.int lo) [.sh (.int cell), .sh (.int bO),x2,x3, .ow (c.map aw),a,b]).bind a9=some ([.sh (.int cell), .sh (.int (bO / 28)),x2,x3, .ow ((c++[((l4 (v % 4),v / 4 % 7 - 3):Pc)]).map aw), .sh (.int lo), .sh (.int v)], .nx):=by
      have lb:c.length < 1000000:=by omega
      by_cases c1:(if cell < 0 then -cell else cell) < 1000000000000000000
      · refine ⟨z,?_⟩
        simp only [a8,az,List.length_cons,List.length_nil,Nat.zero_add,Nat.reduceAdd,Nat.reduceLT,List.set_cons_succ,List.set_cons_zero,if_true,a9,jd,Int.reducePow,Int.reduceNeg,bv,cO,be,Option.bind_some,ap,ak,ab,List.getElem?_cons_succ,List.getElem?_cons_zero,PL.settle,frz,frzAll,bw,fZ,cZ,af,ck,ae,Sl.isBr,Bool.false_and,Bool.false_eq_true,aq,Option.map_some,if_false,oZ,pC,dt,look,Sl.val,gP,Int.reduceLE,Int.reduceLT,and_self,decide_true,Int.reduceToNat,dR,Cm.i,Cm.s,gf,jk,gI,Bool.or_false,au,bb,bR,aG,c_,ar,dO,df,bI,ig,aR,aZ,c1,ez,l9,dd.1,Nat.reduceLeDiff,List.length_map,lb,dd.2,List.map_append,List.map_cons,aw,List.map_nil]
      · by_cases c2: -28 < bO
        · by_cases c3:bO < 28
          · refine ⟨z,?_⟩
            simp only [a8,az,List.length_cons,List.length_nil,Nat.zero_add,Nat.reduceAdd,Nat.reduceLT,List.set_cons_succ,List.set_cons_zero,if_true,a9,jd,Int.reducePow,Int.reduceNeg,bv,cO,be,Option.bind_some,ap,ak,ab,List.getElem?_cons_succ,List.getElem?_cons_zero,PL.settle,frz,frzAll,bw,fZ,cZ,af,ck,ae,Sl.isBr,Bool.false_and,Bool.false_eq_true,aq,Option.map_some,if_false,oZ,pC,dt,look,Sl.val,gP,Int.reduceLE,Int.reduceLT,and_self,decide_true,Int.reduceToNat,dR,Cm.i,Cm.s,gf,jk,gI,Bool.or_false,au,bb,bR,aG,c_,ar,dO,df,bI,ig,aR,aZ,c1,decide_false,c3,c2,ez,l9,dd.1,Nat.reduceLeDiff,List.length_map,lb,dd.2,List.map_append,List.map_cons,aw,List.map_nil]
          · refine ⟨bO,?_⟩
            simp only [a8,az,List.length_cons,List.length_nil,Nat.zero_add,Nat.reduceAdd,Nat.reduceLT,List.set_cons_succ,List.set_cons_zero,if_true,a9,jd,Int.reducePow,Int.reduceNeg,bv,cO,be,Option.bind_some,ap,ak,ab,List.getElem?_cons_succ,List.getElem?_cons_zero,PL.settle,frz,frzAll,bw,fZ,cZ,af,ck,ae,Sl.isBr,Bool.false_and,Bool.false_eq_true,aq,Option.map_some,if_false,oZ,pC,dt,look,Sl.val,gP,Int.reduceLE,Int.reduceLT,and_self,decide_true,Int.reduceToNat,dR,Cm.i,Cm.s,gf,jk,gI,Bool.or_false,au,bb,bR,aG,c_,ar,dO,df,bI,ig,aR,aZ,c1,decide_false,c3,c2,ez,l9,dd.1,Nat.reduceLeDiff,List.length_map,lb,dd.2,List.map_append,List.map_cons,aw,List.map_nil]
        · refine ⟨bO,?_⟩
          simp only [a8,az,List.length_cons,List.length_nil,Nat.zero_add,Nat.reduceAdd,Nat.reduceLT,List.set_cons_succ,List.set_cons_zero,if_true,a9,jd,Int.reducePow,Int.reduceNeg,bv,cO,be,Option.bind_some,ap,ak,ab,List.getElem?_cons_succ,List.getElem?_cons_zero,PL.settle,frz,frzAll,bw,fZ,cZ,af,ck,ae,Sl.isBr,Bool.false_and,Bool.false_eq_true,aq,Option.map_some,if_false,oZ,pC,dt,look,Sl.val,gP,Int.reduceLE,Int.reduceLT,and_self,decide_true,Int.reduceToNat,dR,Cm.i,Cm.s,gf,jk,gI,Bool.or_false,au,bb,bR,aG,c_,ar,dO,df,bI,ig,aR,aZ,c1,decide_false,c2,ez,l9,dd.1,Nat.reduceLeDiff,List.length_map,lb,dd.2,List.map_append,List.map_cons,aw,List.map_nil]
    obtain ⟨v,e⟩:=step
    obtain ⟨r',c',a',b',e2,l2,n2⟩:=gT cell x2 x3 n (lo+1) (bO / 28) (c++[((l4 (v % 4),v / 4 % 7 - 3):Pc)]) (.sh (.int lo)) (.sh (.int v)) (by omega) (by simp;omega) (hN.append fun p hp=>by rw [List.mem_singleton.mp hp];exact ⟨zR _,by show (v / 4 % 7 - 3).natAbs < 2 ^ 100;have:=Int.emod_nonneg (v / 4) (show (7:Int)≠0 by decide);have:=Int.emod_lt_of_pos (v / 4) (show (0:Int) < 7 by decide);omega⟩)
    refine ⟨r',c',a',b',?_,by rw [l2];simp;omega,n2⟩
    rw [eP,bg,e]
    exact e2
theorem gU (cell:Int):∃c:List Pc,bq [.int cell]=some (.ow (c.map aw))∧c.length≤12∧CordOk c:=by
  have dd:eQ 5=true∧eQ 26=true∧eQ 13=true:=by decide
  have mm:bN 2 1000000000000000000000000000000=true:=qx (by decide) (by decide)
  by_cases c5:cell % 5=2
  · refine ⟨[((97+(cell / 5 % 26).toNat,cell / 5 / 26 % (2*10 ^ 30 - 1) - (10 ^ 30 - 1)):Pc)],?_,by simp,fun p hp=>?_⟩
    · simp only [bq,g4,List.length_cons,List.length_nil,Nat.zero_add,je,dE,ap,ak,af,ab,cA,List.map_cons,List.map_nil,Nat.reduceSub,List.replicate,List.cons_append,List.nil_append,List.getElem?_cons_zero,Sl.isBr,Bool.false_and,Bool.false_eq_true,pC,be,dt,look,Sl.val,gP,Option.bind_some,if_false,dd.1,if_true,Option.map_some,PL.settle,frz,frzAll,Nat.reduceAdd,Nat.reduceLT,List.set_cons_succ,List.set_cons_zero,bw,cZ,bv,iz,dO,df,bI,yt,bP,cP,ar,c_,jd,Int.reducePow,Int.reduceNeg,Int.reduceLE,Int.reduceLT,and_self,decide_true,Int.reduceToNat,eZ,Bool.not_false,Bool.true_or,Bool.and_true,mm,Int.reduceMul,cO,Int.reduceSub,aR,bb,Nat.reduceLeDiff,eK,eS,ae,aq,c5,b5,List.getElem?_cons_succ,AZ,dd.2.1,dC,cM,aO,cJ,aw]
    · rw [List.mem_singleton.mp hp]
      have:=Int.emod_lt_of_pos (cell / 5) (show (0:Int) < 26 by decide)
      have h2:=Int.emod_nonneg (cell / 5 / 26) (show (2*10 ^ 30 - 1:Int)≠0 by decide)
      have h3:=Int.emod_lt_of_pos (cell / 5 / 26) (show (0:Int) < 2*10 ^ 30 - 1 by decide)
      refine ⟨?_,?_⟩
      · show 97+(cell / 5 % 26).toNat < 128
        omega
      · show (cell / 5 / 26 % (2*10 ^ 30 - 1) - (10 ^ 30 - 1)).natAbs < 2 ^ 100
        generalize cell / 5 / 26 % (2*10 ^ 30 - 1)=z at h2 h3
        omega
  · have m0:=Int.emod_nonneg (cell / 5) (show (13:Int)≠0 by decide)
    have m1:=Int.emod_lt_of_pos (cell / 5) (show (0:Int) < 13 by decide)
    obtain ⟨r',c',a',b',e,l,n⟩:=gT cell .no (.sh (.int (cell / 5 % 13))) (cell / 5 % 13).toNat 0 (cell / 5 / 13) [] .no .no (by omega) (by simp;omega) j4
    refine ⟨c',?_,by rw [l];simp;omega,n⟩
    have hb: -1000000≤cell / 5 % 13∧cell / 5 % 13≤1000000:=by omega
    simp only [List.map_nil,Int.natCast_zero] at e
    simp only [bq,g4,List.length_cons,List.length_nil,Nat.zero_add,je,dE,ap,ak,af,ab,cA,List.map_cons,List.map_nil,Nat.reduceSub,List.replicate,List.cons_append,List.nil_append,List.getElem?_cons_zero,Sl.isBr,Bool.false_and,Bool.false_eq_true,pC,be,dt,look,Sl.val,gP,Option.bind_some,if_false,dd.1,if_true,Option.map_some,PL.settle,frz,frzAll,Nat.reduceAdd,Nat.reduceLT,List.set_cons_succ,List.set_cons_zero,bw,cZ,bv,iz,dO,df,bI,bP,cP,ar,c_,jd,eZ,Bool.not_false,Bool.true_or,Bool.and_true,cO,aR,bb,Nat.reduceLeDiff,eK,eS,ae,aq,Int.reduceLT,decide_true,b5,c5,decide_false,List.getElem?_cons_succ,dd.2.2,aZ,hb,and_self,e,dC,cM,cC]
theorem i8 (s0 s1 s2:Sl) (most:Int) (hm0:0≤most) (hm:most≤1000):∀(zs:List Int) (c:List Pc) (a b d:Sl),(c.length:Int)≤most→CordOk c→
    ∃(c':List Pc) (a' b' d':Sl),bg aS aT (zs.map .int) [s0,s1,s2, .sh (.int most), .ow (c.map aw),a,b,d]=some ([s0,s1,s2, .sh (.int most), .ow (c'.map aw),a',b',d'], .nx)∧(c'.length:Int)≤most∧CordOk c'
  | [],c,a,b,d,h,hN=>⟨c,a,b,d,rfl,h,hN⟩
  | z::zs,c,a,b,d,h,hN=>by
    have step:∃(c':List Pc) (a' b' d':Sl),(aS (.int z) [s0,s1,s2, .sh (.int most), .ow (c.map aw),a,b,d]).bind aT=some ([s0,s1,s2, .sh (.int most), .ow (c'.map aw),a',b',d'], .nx)∧(c'.length:Int)≤most∧CordOk c':=by
      have hp:0 < (c.length:Int)+1:=by omega
      have k0:0≤z / 5 % ((c.length:Int)+1):=Int.emod_nonneg _ (by omega)
      have d5:eQ 5=true:=by decide
      generalize hk:z / 5 % ((c.length:Int)+1)=k at k0
      have l1:=jU c (some k) none
      have l2:=jU c none (some k)
      by_cases c3:z % 5=3
      · have e1:=fY (cutL c (some k) none) (by omega)
        have lb:c.length+(NH.contr (cutL c (some k) none)).length≤1000000:=by rw [NH.dv];omega
        obtain ⟨a1,b1,d1,e⟩:∃a1 b1 d1,(aS (.int z) [s0,s1,s2, .sh (.int most), .ow (c.map aw),a,b,d]).bind aT=some ([s0,s1,s2, .sh (.int most), .ow ((cutL (c++NH.contr (cutL c (some k) none)) none (some most)).map aw),a1,b1,d1], .nx):=by
          simp only [aS,az,List.length_cons,List.length_nil,Nat.zero_add,Nat.reduceAdd,Nat.reduceLT,List.set_cons_succ,List.set_cons_zero,if_true,aT,bv,be,iz,Option.bind_some,ap,ak,af,ab,List.getElem?_cons_succ,List.getElem?_cons_zero,Sl.isBr,Bool.false_and,Bool.false_eq_true,pC,dt,look,Sl.val,gP,if_false,d5,Option.map_some,ck,ae,aq,dP,bh,df,bI,Bool.not_false,Bool.true_or,Bool.and_true,aZ,List.length_map,hp,decide_true,hk,PL.settle,frz,frzAll,bw,cZ,au,gJ,dW,e9,Int.reduceLT,c3,b5,Option.any_some,gm,cC,Bool.or_true,e1,lb,←List.map_append]
          exact ⟨_,_,_,rfl⟩
        exact ⟨_,a1,b1,d1,e,iF _ hm0,(hN.append (hN.cutL _ _).contr).cutL _ _⟩
      · by_cases c4:z % 5=4
        · obtain ⟨p,ep,lp,np⟩:=gU (z / 5)
          have e1:=fY p (by omega)
          have lb:p.length+(NH.contr p).length≤1000000:=by rw [NH.dv];omega
          have lb2:(cutL c none (some k)).length+(p++NH.contr p).length≤1000000:=by rw [List.length_append,NH.dv];omega
          have lb3:(cutL c none (some k)++(p++NH.contr p)).length+(cutL c (some k) none).length≤1000000:=by rw [List.length_append,List.length_append,NH.dv];omega
          obtain ⟨a1,b1,d1,e⟩:∃a1 b1 d1,(aS (.int z) [s0,s1,s2, .sh (.int most), .ow (c.map aw),a,b,d]).bind aT=some ([s0,s1,s2, .sh (.int most), .ow ((cutL (cutL c none (some k)++(p++NH.contr p)++cutL c (some k) none) none (some most)).map aw),a1,b1,d1], .nx):=by
            simp only [aS,az,List.length_cons,List.length_nil,Nat.zero_add,Nat.reduceAdd,Nat.reduceLT,List.set_cons_succ,List.set_cons_zero,if_true,aT,bv,be,iz,Option.bind_some,ap,ak,af,ab,List.getElem?_cons_succ,List.getElem?_cons_zero,Sl.isBr,Bool.false_and,Bool.false_eq_true,pC,dt,look,Sl.val,gP,if_false,d5,Option.map_some,ck,ae,aq,dP,bh,df,bI,Bool.not_false,Bool.true_or,Bool.and_true,aZ,List.length_map,hp,decide_true,hk,PL.settle,frz,frzAll,bw,cZ,au,gJ,dW,e9,Int.reduceLT,c4,b5,Int.reduceEq,decide_false,Option.any_some,gm,cC,Bool.or_true,ep,e1,lb,←List.map_append,lb2,lb3]
            exact ⟨_,_,_,rfl⟩
          exact ⟨_,a1,b1,d1,e,iF _ hm0,(((hN.cutL _ _).append (np.append np.contr)).append (hN.cutL _ _)).cutL _ _⟩
        · obtain ⟨p,ep,lp,np⟩:=gU z
          have lb:c.length+p.length≤1000000:=by omega
          obtain ⟨a1,b1,d1,e⟩:∃a1 b1 d1,(aS (.int z) [s0,s1,s2, .sh (.int most), .ow (c.map aw),a,b,d]).bind aT=some ([s0,s1,s2, .sh (.int most), .ow ((cutL (c++p) none (some most)).map aw),a1,b1,d1], .nx):=by
            simp only [aS,az,List.length_cons,List.length_nil,Nat.zero_add,Nat.reduceAdd,Nat.reduceLT,List.set_cons_succ,List.set_cons_zero,if_true,aT,bv,be,iz,Option.bind_some,ap,ak,af,ab,List.getElem?_cons_succ,List.getElem?_cons_zero,Sl.isBr,Bool.false_and,Bool.false_eq_true,pC,dt,look,Sl.val,gP,if_false,d5,Option.map_some,ck,ae,aq,dP,bh,df,bI,Bool.not_false,Bool.true_or,Bool.and_true,aZ,List.length_map,hp,decide_true,hk,PL.settle,frz,frzAll,bw,cZ,au,gJ,dW,e9,Int.reduceLT,b5,c3,decide_false,Option.any_some,gm,cC,Bool.or_true,c4,ep,lb,←List.map_append]
            exact ⟨_,_,_,rfl⟩
          exact ⟨_,a1,b1,d1,e,iF _ hm0,(hN.append np).cutL _ _⟩
    obtain ⟨c1,a1,b1,d1,e,l1,n1⟩:=step
    obtain ⟨c',a',b',d',e2,l2,n2⟩:=i8 s0 s1 s2 most hm0 hm zs c1 a1 b1 d1 l1 n1
    refine ⟨c',a',b',d',?_,l2,n2⟩
    rw [List.map_cons,bg,e]
    exact e2
theorem n8 (ns:List Int) (first last most:Int) (h0:0≤first) (hm0:0≤most) (hm:most≤1000) (hl:ns.length≤63):∃c:List Pc,bX [.list (ns.map .int), .int first, .int last, .int most]=some (.ow (c.map aw))∧(c.length:Int)≤most∧CordOk c:=by
  obtain ⟨k,rfl⟩:∃k:Nat,first=k:=⟨first.toNat,by omega⟩
  have e0:=lh ns k
  obtain ⟨c,a,b,d,e,l,n⟩:=i8 (.sh (.list (ns.map .int))) (.sh (.int k)) (.sh (.int last)) most hm0 hm (ns.getD k 0::cutL ns (some ((k:Int)+1)) (some last)) [] .no .no .no (by simpa using hm0) j4
  have lb:=jU ns (some ((k:Int)+1)) (some last)
  have lb2:1+(cutL ns (some ((k:Int)+1)) (some last)).length≤1000000:=by omega
  simp only [List.map_nil,List.map_cons] at e
  refine ⟨c,?_,l,n⟩
  simp only [bX,g4,List.length_cons,List.length_nil,Nat.zero_add,Nat.reduceAdd,je,fR,ap,ak,cP,aR,cA,List.map_cons,List.map_nil,Nat.reduceSub,List.replicate,List.cons_append,List.nil_append,Option.bind_some,Nat.reduceLeDiff,if_true,PL.settle,frz,frzAll,Nat.reduceLT,List.set_cons_succ,List.set_cons_zero,eK,dZ,af,ar,au,ae,ab,Sl.isBr,Bool.false_and,Bool.false_eq_true,aq,Option.map_some,if_false,gJ,dW,pC,bh,look,Sl.val,df,bI,Bool.not_false,Bool.true_or,Bool.and_true,bP,List.getElem?_cons_zero,List.getElem?_cons_succ,aZ,e0,gm,rV,Bool.or_true,List.length_map,lb2,decide_true,e,dC,cM,cC]
theorem i9 (x0:Sl):∀(c acc:List Pc) (a b:Sl),acc.length+c.length≤1000→CordOk acc→CordOk c→∃(acc':List Pc) (a' b':Sl),bg ce cf (c.map aw) [x0, .ow (acc.map aw),a,b]=some ([x0, .ow (acc'.map aw),a',b'], .nx)∧acc'.length=acc.length+c.length∧CordOk acc'
  | [],acc,a,b,_,h,_=>⟨acc,a,b,rfl,rfl,h⟩
  | p::c,acc,a,b,hl,h,hc=>by
    have lb:acc.length < 1000000:=by simp at hl;omega
    have d3:eQ 1000=true:=by decide
    have hp:=hc p (List.mem_cons_self ..)
    have step:∃(t:Int),t.natAbs < 2 ^ 100∧(ce (aw p) [x0, .ow (acc.map aw),a,b]).bind cf=some ([x0, .ow ((acc++[((p.1,t):Pc)]).map aw), .sh (.str ⟨#[p.1]⟩), .sh (.int p.2)], .nx):=by
      by_cases n:p.2 < 0
      · refine ⟨0 - (0 - p.2) % 1000,?_,?_⟩
        · have h1:=Int.emod_nonneg (0 - p.2) (show (1000:Int)≠0 by decide)
          have h2:=Int.emod_lt_of_pos (0 - p.2) (show (0:Int) < 1000 by decide)
          generalize (0 - p.2) % 1000=z at h1 h2
          omega
        · simp only [ce,dY,aw,List.length_cons,List.length_nil,Nat.zero_add,Nat.reduceAdd,bD,az,Nat.reduceLT,List.set_cons_succ,List.set_cons_zero,if_true,Option.bind_some,dX,List.isEmpty_nil,cf,cO,bv,bw,cZ,af,ab,List.getElem?_cons_succ,List.getElem?_cons_zero,Sl.isBr,Bool.false_and,Bool.false_eq_true,pC,dt,look,Sl.val,dR,Cm.i,Cm.s,if_false,n,decide_true,Option.map_some,bR,aG,c_,ar,frz,gP,aR,Int.reduceLT,Nat.reduceLeDiff,List.length_map,lb,List.map_append,List.map_cons,List.map_nil]
      · refine ⟨p.2 % 1000,?_,?_⟩
        · have h1:=Int.emod_nonneg p.2 (show (1000:Int)≠0 by decide)
          have h2:=Int.emod_lt_of_pos p.2 (show (0:Int) < 1000 by decide)
          generalize p.2 % 1000=z at h1 h2
          omega
        · simp only [ce,dY,aw,List.length_cons,List.length_nil,Nat.zero_add,Nat.reduceAdd,bD,az,Nat.reduceLT,List.set_cons_succ,List.set_cons_zero,if_true,Option.bind_some,dX,List.isEmpty_nil,cf,cO,bv,bw,cZ,af,ab,List.getElem?_cons_succ,List.getElem?_cons_zero,Sl.isBr,Bool.false_and,Bool.false_eq_true,pC,dt,look,Sl.val,dR,Cm.i,Cm.s,if_false,n,decide_false,Option.map_some,bR,aG,c_,ar,frz,gP,aR,Int.reduceLT,decide_true,Nat.reduceLeDiff,List.length_map,lb,List.map_append,List.map_cons,List.map_nil]
    obtain ⟨t,ht,e⟩:=step
    obtain ⟨acc',a',b',e2,l2,k2⟩:=i9 x0 c (acc++[((p.1,t):Pc)]) (.sh (.str ⟨#[p.1]⟩)) (.sh (.int p.2)) (by simp at hl ⊢;omega) (h.append fun q hq=>by rw [List.mem_singleton.mp hq];exact ⟨hp.1,ht⟩) fun q hq=>hc q (List.mem_cons_of_mem _ hq)
    refine ⟨acc',a',b',?_,by rw [l2];simp;omega,k2⟩
    rw [List.map_cons,bg,e]
    exact e2
theorem n_ (c:List Pc) (hl:c.length≤1000) (h:CordOk c):∃(c':List Pc) (r:Sl),bF [.list (c.map aw)]=some r∧(r= .br (.list (c'.map aw))∨r= .ow (c'.map aw))∧c'.length=c.length∧CordOk c':=by
  by_cases l8:(c.length:Int) < 8
  · refine ⟨c, .br (.list (c.map aw)),?_,Or.inl rfl,rfl,h⟩
    simp only [bF,g4,List.length_cons,List.length_nil,Nat.zero_add,je,eW,ap,bw,cZ,af,ck,ae,ab,cA,List.map_cons,List.map_nil,Nat.reduceSub,List.replicate,List.cons_append,List.nil_append,List.getElem?_cons_zero,Sl.isBr,Bool.false_and,Bool.false_eq_true,aq,Option.map_some,if_false,Option.bind_some,dP,aZ,look,Sl.val,List.length_map,pC,dt,dR,Cm.i,Cm.s,l8,decide_true,bP,bb,if_true,ak,cP,aR,Nat.reduceLeDiff,PL.settle,frz,frzAll,eK,dZ,dC,cM,cJ]
  · obtain ⟨acc',a',b',e,l,k⟩:=i9 (.sh (.list (c.map aw))) c [] .no .no (by simpa using hl) j4 h
    refine ⟨acc', .ow (acc'.map aw),?_,Or.inr rfl,by simpa using l,k⟩
    simp only [List.map_nil] at e
    simp only [bF,g4,List.length_cons,List.length_nil,Nat.zero_add,je,eW,ap,bw,cZ,af,ck,ae,ab,cA,List.map_cons,List.map_nil,Nat.reduceSub,List.replicate,List.cons_append,List.nil_append,List.getElem?_cons_zero,Sl.isBr,Bool.false_and,Bool.false_eq_true,aq,Option.map_some,if_false,Option.bind_some,dP,aZ,look,Sl.val,List.length_map,pC,dt,dR,Cm.i,Cm.s,l8,decide_false,bP,bb,ak,cP,aR,Nat.reduceLeDiff,if_true,PL.settle,frz,frzAll,eK,dZ,Nat.reduceAdd,Nat.reduceLT,List.set_cons_succ,List.set_cons_zero,e,List.getElem?_cons_succ,dC,cM,cC]
theorem aY {f g:c9} {E E1:List Sl} (h:f E=some (E1, .nx)):ap f g E=g E1:=by
  unfold ap
  rw [h]
  rfl
theorem oa {c:gO} {a b:c9} {E E1:List Sl} {r:Option (List Sl×Fl)} (h:c E=some (false,E1)) (k:b E1=r):bw c a b E=r:=by
  unfold bw
  rw [h,←k]
  rfl
theorem pP {c:gO} {a b:c9} {E E1:List Sl} {r:Option (List Sl×Fl)} (h:c E=some (true,E1)) (k:a E1=r):bw c a b E=r:=by
  unfold bw
  rw [h,←k]
  rfl
theorem qR {g:mN} {E E':List Sl} {i j:Int} {ss:List Sl} (h:g E=some (ss,E')) (hl:aZ E' ss=some [.int i, .int j]) (c: -1000000≤i∧i≤1000000∧ -1000000≤j∧j≤1000000):jQ g E=some (gl i (j - i).toNat,E'):=by
  unfold jQ
  rw [h,Option.bind_some]
  simp only [hl]
  rw [if_pos c]
theorem hV {it:iZ} {tg:gj} {body:c9} {E E1 E2:List Sl} {ds:List PyData} (h:it E=some (ds,E1)) (l:bg tg body ds E1=some (E2, .nx)):eK it tg body E=some (E2, .nx):=by
  unfold eK
  rw [h,Option.bind_some,l]
theorem wu (t:Int) (k:Nat):NH.ch t k*(t - ((k:Int)+1)+1) / ((k:Int)+1)=NH.ch t (k+1):=by
  have h:=NH.ma t k
  rw [show NH.ch t k*(t - ((k:Int)+1)+1)=((k:Int)+1)*NH.ch t (k+1) by rw [h,Int.mul_comm];congr 1;omega]
  exact Int.mul_ediv_cancel_left _ (by omega)
theorem yH (x1 a:Sl) (t:Int) (k:Nat) (hk:k≤1000) (hm:bN (NH.ch t k) (t - ((k:Int)+1)+1)=true):
    (a_ (.int ((k:Int)+1)) [.sh (.int t),x1, .ow (((List.range (k+1)).map (NH.ch t)).map .int),a]).bind ba=some ([.sh (.int t),x1, .ow (((List.range (k+2)).map (NH.ch t)).map .int), .sh (.int ((k:Int)+1))], .nx):=by
  have e1:(((List.range (k+1)).map (NH.ch t)).map PyData.int)=(((List.range k).map (NH.ch t)).map .int)++[.int (NH.ch t k)]:=by rw [List.range_succ,List.map_append,List.map_append];rfl
  have e2:(((List.range (k+2)).map (NH.ch t)).map PyData.int)=(((List.range k).map (NH.ch t)).map .int)++[.int (NH.ch t k)]++[.int (NH.ch t (k+1))]:=by rw [List.range_succ,List.map_append,List.map_append,e1];rfl
  have d:eQ ((k:Int)+1)=true:=nD (by omega) (by omega)
  have k0:(0:Int) < (k:Int)+1:=by omega
  have n:=wu t k
  rw [e2,e1]
  have lb:(((List.range k).map (NH.ch t)).map PyData.int).length+1 < 1000000:=by simp;omega
  simp only [a_,az,List.length_cons,List.length_nil,Nat.zero_add,Nat.reduceAdd,Nat.reduceLT,List.set_cons_succ,List.set_cons_zero,if_true,ba,be,cO,Option.bind_some,bR,aG,List.getElem?_cons_succ,List.getElem?_cons_zero,af,ab,Sl.isBr,Bool.false_and,Bool.false_eq_true,jk,pC,look,Sl.val,gI,Option.map_some,dO,df,bI,if_false,Option.any_some,ie,dt,gP,bh,Bool.not_false,Bool.true_or,Bool.and_true,eZ,hm,d,n,frz,List.length_append,lb]
theorem u6 (x1:Sl) (t:Int) (M:Nat) (hM:M≤1000) (hm:∀k,k < M→bN (NH.ch t k) (t - ((k:Int)+1)+1)=true):∀(n k:Nat) (a:Sl),k+n=M→∃a',bg a_ ba (gl ((k:Int)+1) n) [.sh (.int t),x1, .ow (((List.range (k+1)).map (NH.ch t)).map .int),a]=some ([.sh (.int t),x1, .ow (((List.range (M+1)).map (NH.ch t)).map .int),a'], .nx)
  | 0,k,a,h=>⟨a,by rw [show k=M by omega];rfl⟩
  | n+1,k,a,h=>by
    have s:=yH x1 a t k (by omega) (hm k (by omega))
    obtain ⟨a',e⟩:=u6 x1 t M hM hm n (k+1) (.sh (.int ((k:Int)+1))) (by omega)
    refine ⟨a',?_⟩
    rw [eP,bg,s]
    rw [show ((k+1:Nat):Int)+1=(k:Int)+1+1 by omega] at e
    exact e
theorem yI (t:Int) (M:Nat) (hM:M≤1000) (hm:∀k,k < M→bN (NH.ch t k) (t - ((k:Int)+1)+1)=true):aE [.int t, .int M]=some (.ow (((List.range (M+1)).map (NH.ch t)).map .int)):=by
  obtain ⟨a,e⟩:=u6 (.sh (.int M)) t M hM hm M 0 .no (by omega)
  have e0:(((List.range (0+1)).map (NH.ch t)).map PyData.int)=[.int 1]:=by
    show [PyData.int (NH.ch t 0)]=_
    rw [NH.aD]
  rw [e0] at e
  simp only [Int.natCast_zero,Int.zero_add] at e
  have fl:aO (((List.range (M+1)).map (NH.ch t)).map PyData.int)=true:=g5 _
  have s2:ak 2 (cP (ar (pC (.int 1)) aR)) [.sh (.int t), .sh (.int M), .no, .no]=some ([.sh (.int t), .sh (.int M), .ow [.int 1], .no], .nx):=by
    simp only [ak,cP,ar,pC,frz,aR,Option.map_some,Option.bind_some,List.length_cons,List.length_nil,Nat.zero_add,Nat.reduceLeDiff,if_true,PL.settle,frzAll,Nat.reduceAdd,Nat.reduceLT,List.set_cons_succ,List.set_cons_zero]
  have h1:(ae false (pC (.int 1)) (ae false (af bh false (ab 1) (pC (.int 1))) aq)) [.sh (.int t), .sh (.int M), .ow [.int 1], .no]=some ([.sh (.int 1), .sh (.int ((M:Int)+1))],[.sh (.int t), .sh (.int M), .ow [.int 1], .no]):=by
    simp only [ae,pC,Sl.isBr,Bool.false_and,Bool.false_eq_true,af,ab,bh,look,Sl.val,df,bI,Option.bind_some,Bool.not_false,Bool.true_or,Bool.and_true,if_false,aq,Option.map_some,List.getElem?_cons_succ,List.getElem?_cons_zero]
  have hi:=qR h1 rfl (by omega)
  rw [show ((M:Int)+1 - 1).toNat=M by omega] at hi
  have fo:=hV (tg:=a_) (body:=ba) hi e
  have g:aE [.int t, .int M]=(b_ [.sh (.int t), .sh (.int M), .no, .no]).bind fun a=>match a.2 with | .rt r=>dC r | .nx=>some (.sh .none) | _=>none:=rfl
  rw [g,b_,aY s2,aY fo]
  simp only [bP,ab,List.getElem?_cons_succ,List.getElem?_cons_zero,Option.bind_some,List.set_cons_succ,List.set_cons_zero,Option.map_some,dC,cM,fl,if_true]
theorem wv (w:List Nat):(⟨w.toArray⟩:Str).cps.toList=w:=by simp
theorem yJ {w:List Nat} {i:Nat} (h:i < w.length):atI (⟨w.toArray⟩:Str).cps.toList (i:Int)=some (w.getD i 0):=by
  rw [wv,cB,List.getElem?_eq_getElem h]
  simp [h]
theorem Ab {n k:Nat} (h:k < n):tF n (k:Int)=some k:=by
  unfold tF
  rw [if_pos (by omega),if_pos (by omega),Int.toNat_natCast]
theorem Ac {n k:Nat} (g:Nat→Int) (v:Int):((List.range n).map g).set k v=(List.range n).map fun i=>if i=k then v else g i:=by
  refine List.ext_getElem? fun i=>?_
  by_cases e:k=i
  · subst e
    by_cases h:k < n
    · rw [List.getElem?_set_self (by simpa using h),List.getElem?_map,List.getElem?_range h]
      simp
    · rw [List.getElem?_eq_none (by simp;omega),List.getElem?_eq_none (by simp;omega)]
  · rw [List.getElem?_set_ne e,List.getElem?_map,List.getElem?_map]
    by_cases h:i < n
    · have ne:¬i=k:=fun z=>e z.symm
      rw [List.getElem?_range h]
      simp [ne]
    · rw [List.getElem?_eq_none (by simp;omega)]
      rfl
theorem ww (w:List Nat):(PyData.int 1::List.replicate w.length (PyData.int 0))=((List.range (w.length+1)).map (NH.i6 w [])).map PyData.int:=by
  rw [List.range_succ_eq_map,List.map_cons,List.map_cons,List.map_map,List.map_map]
  have h0:NH.i6 w [] 0=1:=by simp [NH.i6,NH.iM,NH.oC]
  rw [h0]
  congr 1
  refine List.ext_getElem? fun i=>?_
  by_cases h:i < w.length
  · rw [List.getElem?_map,List.getElem?_range h,List.getElem?_eq_getElem (by simpa using h)]
    simp only [List.getElem_replicate,Option.map_some,Function.comp]
    cases w with
    | nil=>simp at h
    | cons a w=>simp [NH.i6,NH.iM,NH.oC]
  · rw [List.getElem?_eq_none (by simp;omega),List.getElem?_eq_none (by simp;omega)]
def sG (w:List Nat) (c:List Pc):Prop:=(NH.bi c+w.length*c.length+w.length+1) ^ w.length < 2 ^ 20000∧NH.bi c+w.length*c.length+w.length+1 < 2 ^ 20000
theorem mH {w:List Nat} {c:List Pc} (h:sG w c) {b n:Nat} (hb:b≤NH.bi c+w.length*c.length+w.length+1) (hn:n≤w.length):b ^ n < 2 ^ 20000:=
  Nat.lt_of_le_of_lt (Nat.le_trans (Nat.pow_le_pow_left hb n) (Nat.pow_le_pow_right (by omega) hn)) h.1
theorem wx {w:List Nat} {c c1:List Pc} (h:sG w c) (hs:NH.bi c1≤NH.bi c) (hl:c1.length≤c.length) (k:Nat):(NH.i6 w c1 k).natAbs < 2 ^ 20000:=by
  have l:(w.take k).length≤w.length:=by simp;omega
  have h1:=NH.jY (L:=w.length) c1 (w.take k) l
  have m:w.length*c1.length≤w.length*c.length:=Nat.mul_le_mul_left _ hl
  exact Nat.lt_of_le_of_lt h1 (mH h (by omega) l)
theorem yK {w:List Nat} {c:List Pc} (h:sG w c) {t:Int} (ht:t.natAbs≤NH.bi c) {j:Nat} (hj:j≤w.length):(NH.ch t j).natAbs < 2 ^ 20000:=
  Nat.lt_of_le_of_lt (NH.qA t j) (mH h (by omega) hj)
theorem fg {c:List PyData→Option Sl} {g:mN} {E E1:List Sl} {ss:List Sl} {ds:List PyData} {r:Sl} (h:g E=some (ss,E1)) (hl:aZ E1 ss=some ds) (hc:c ds=some r):au c g E=some (r,E1):=by
  unfold au
  rw [h,Option.bind_some]
  show (aZ E1 ss).bind _=_
  rw [hl,Option.bind_some,hc]
  rfl
theorem sH (n:Nat):(List.replicate n [PyData.int 0]).flatten=List.replicate n (PyData.int 0):=by
  induction n with
  | zero=>rfl
  | succ n ih=>rw [List.replicate_succ,List.flatten_cons,ih,List.replicate_succ];rfl
theorem Ad (u v:List Nat):(⟨u.toArray⟩:Str)++(⟨v.toArray⟩:Str)=⟨(u++v).toArray⟩:=by
  show (⟨u.toArray++v.toArray⟩:Str)=_
  simp
theorem pQ (w:List Nat):(⟨w.toArray⟩:Str).length=w.length:=by show w.toArray.size=_;simp
theorem wy {w:List Nat} {c:List Pc} (hw:w.length≤40) (hl:c.length≤130) (h:CordOk c):sG w c:=by
  have h1:=NH.mh (B:=2 ^ 100) c fun p hp=>(h p hp).2
  have h2:c.length*2 ^ 100≤130*2 ^ 100:=Nat.mul_le_mul_right _ hl
  have h3:w.length*c.length≤40*130:=Nat.mul_le_mul hw hl
  have h4:NH.bi c+w.length*c.length+w.length+1≤2 ^ 110:=by omega
  have h5:(NH.bi c+w.length*c.length+w.length+1) ^ w.length≤(2 ^ 110) ^ 40:=Nat.le_trans (Nat.pow_le_pow_left h4 _) (Nat.pow_le_pow_right (Nat.two_pow_pos _) hw)
  refine ⟨Nat.lt_of_le_of_lt h5 ?_,Nat.lt_of_le_of_lt h4 ?_⟩
  · rw [←Nat.pow_mul]
    exact Nat.pow_lt_pow_right (by decide) (by decide)
  · exact Nat.pow_lt_pow_right (by decide) (by decide)
def Ae (s:Sl) (c:List Pc):Prop:=s= .sh (.list (c.map aw))∨s= .ow (c.map aw)
theorem u7 {x:Int} {f:b7} {E:List Sl} {y:Int} {g:b7} (hf:g E=some (.sh (.int x),E)) (h:f E=some (.sh (.int y),E)):af bh false g f E=some (.sh (.int (x+y)),E):=by
  simp only [af,bh,hf,h,Option.bind_some,look,Sl.val,Bool.false_and,Bool.false_eq_true,if_false]
theorem mI {f:b7} {E E1:List Sl} {d:PyData} {i:Nat} (h:f E=some (.sh d,E1)) (hi:i < E1.length):ak i f E=some (E1.set i (.sh d), .nx):=by
  unfold ak
  rw [h]
  simp only [Option.bind_some,PL.settle,hi,if_true]
theorem Af {a b:gO} {E E1:List Sl} {r:Option (Bool×List Sl)} (h:a E=some (false,E1)) (k:b E1=r):fZ a b E=r:=by
  unfold fZ
  rw [h,Option.bind_some]
  exact k
theorem xk (t:Int) (m:Nat):∀k,k≤m→(NH.ff t k).natAbs≤(t.natAbs+m+1) ^ k
  | 0,_=>by show (1:Int).natAbs≤_;simp
  | k+1,h=>by
    have ih:=xk t m k (by omega)
    show (NH.ff t k*(t - k)).natAbs≤_
    rw [Int.natAbs_mul,Nat.pow_succ]
    exact Nat.mul_le_mul ih (by omega)
def oe (t:Int) (m:Nat):Prop:=(t.natAbs+m+1) ^ m < 2 ^ 20000∧t.natAbs+m+1 < 2 ^ 20000
theorem yL {t:Int} {m k:Nat} (h:oe t m) (hk:k≤m):(NH.ff t k).natAbs < 2 ^ 20000:=Nat.lt_of_le_of_lt (Nat.le_trans (xk t m k hk) (Nat.pow_le_pow_right (by omega) hk)) h.1
theorem sI:∀m,m < 41→NH.o9 m < 2 ^ 200:=by decide+kernel
theorem wz (t:Int) (x1 a:Sl) (m k:Nat) (hk:k < m) (hm:m≤1000) (h:oe t m):(ca (.int k) [.sh (.int t),x1, .sh (.int (NH.ff t k)), .sh (.int (NH.o9 k)),a]).bind cb=some ([.sh (.int t),x1, .sh (.int (NH.ff t (k+1))), .sh (.int (NH.o9 (k+1))), .sh (.int k)], .nx):=by
  have o1:bN (NH.ff t k) (t - k)=true:=io (yL h (by omega)) (Nat.lt_of_le_of_lt (show (t - (k:Int)).natAbs≤t.natAbs+m+1 by omega) h.2)
  have o2:bN (NH.o9 k) ((k:Int)+1)=true:=jn (by omega) (by omega)
  simp only [ca,az,List.length_cons,List.length_nil,Nat.zero_add,Nat.reduceAdd,Nat.reduceLT,List.set_cons_succ,List.set_cons_zero,if_true,cb,cO,Option.bind_some,ap,ak,af,ab,List.getElem?_cons_succ,List.getElem?_cons_zero,Sl.isBr,Bool.false_and,Bool.false_eq_true,dt,look,Sl.val,gP,if_false,eZ,df,bI,Option.map_some,Bool.not_false,Bool.true_or,Bool.and_true,o1,PL.settle,frz,frzAll,pC,bh,o2,NH.ff,NH.o9]
theorem qS (t:Int) (x1:Sl) (m:Nat) (hm:m≤1000) (h:oe t m):∀(n k:Nat) (a:Sl),k+n=m→∃a',bg ca cb (gl k n) [.sh (.int t),x1, .sh (.int (NH.ff t k)), .sh (.int (NH.o9 k)),a]=some ([.sh (.int t),x1, .sh (.int (NH.ff t m)), .sh (.int (NH.o9 m)),a'], .nx)
  | 0,k,a,e=>⟨a,by rw [show k=m by omega];rfl⟩
  | n+1,k,a,e=>by
    have s:=wz t x1 a m k (by omega) hm h
    obtain ⟨a',e2⟩:=qS t x1 m hm h n (k+1) (.sh (.int k)) (by omega)
    refine ⟨a',?_⟩
    rw [eP,bg,s]
    exact e2
theorem ki (t:Int) (m:Nat) (hm:m≤40) (h:oe t m):bt [.int t, .int m]=some (.sh (.int (NH.ch t m))):=by
  obtain ⟨a,e⟩:=qS t (.sh (.int m)) m (by omega) h m 0 .no (by omega)
  have f0:NH.ff t 0=1:=rfl
  have f1:NH.o9 0=1:=rfl
  rw [f0,f1] at e
  simp only [Int.natCast_zero] at e
  have hb: -1000000≤(m:Int)∧(m:Int)≤1000000:=by omega
  have d:eQ (NH.o9 m)=true:=nD (NH.md m) (sI m (by omega))
  have q:=NH.yu t m
  simp only [bt,g4,List.length_cons,List.length_nil,Nat.zero_add,Nat.reduceAdd,je,eN,ap,ak,pC,cA,List.map_cons,List.map_nil,Nat.reduceSub,List.replicate,List.cons_append,List.nil_append,PL.settle,frz,frzAll,Option.bind_some,Nat.reduceLT,List.set_cons_succ,List.set_cons_zero,if_true,eK,eS,ae,ab,Sl.isBr,Bool.false_and,Bool.false_eq_true,aq,Option.map_some,if_false,Int.reduceNeg,bP,af,be,dt,look,Sl.val,gP,List.getElem?_cons_succ,List.getElem?_cons_zero,aZ,hb,and_self,Int.toNat_natCast,e,d,q,dC,cM,cJ]
theorem qT (a:Nat):∀(r:List Nat) (j:Nat),j < NH.d_ a r→r[j]? =some a
  | [],j,h=>by simp [NH.d_] at h
  | b::r,j,h=>by
    simp only [NH.d_] at h
    split at h
    · rename_i e
      cases j with
      | zero=>simp [e]
      | succ j=>simpa using qT a r j (by omega)
    · omega
theorem og (a:Nat):∀r:List Nat,r[NH.d_ a r]? ≠some a
  | []=>by simp
  | b::r=>by
    simp only [NH.d_]
    split
    · simpa using og a r
    · rename_i e;simpa using e
theorem u8 (w:List Nat) (k j:Nat) (hk:k≤w.length) (hj:j < k):(w.take k).reverse[j]? =some (w.getD (k - (j+1)) 0):=by
  rw [List.getElem?_reverse (by simp;omega),List.length_take,Nat.min_eq_left hk,List.getElem?_take,if_pos (by omega),show k - 1 - j=k - (j+1) by omega,List.getElem?_eq_getElem (by omega)]
  simp [show k - (j+1) < w.length by omega]
theorem sJ (a:Nat) (w:List Nat) (k:Nat) (hk:k≤w.length):NH.d_ a (w.take k).reverse≤k:=by
  have:=NH.mi a (w.take k).reverse
  simpa [Nat.min_eq_left hk] using this
def i_ (w:List Nat) (c:List Pc) (p:Pc) (k j:Nat):List Int:=(List.range (w.length+1)).map fun i=>if i < k then NH.i6 w (c++[p]) i else if i=k then NH.i6 w c k+NH.dJ (fun j=>NH.i6 w c (k - (j+1))*NH.ch p.2 (j+1)) j else NH.i6 w c i
def ef (w:List Nat) (c:List Pc):List PyData:=((List.range (w.length+1)).map (NH.i6 w c)).map .int
def IsL (s:Sl) (ds:List PyData):Prop:=s= .sh (.list ds)∨s= .ow ds
theorem qU (w:List Nat) (hw:w.length≤900) (p:Pc) (x1 s2 l m:Sl) (k j:Nat) (hk:k≤w.length):bA [.sh (.str ⟨w.toArray⟩),x1,s2, .sh (.str ⟨#[p.1]⟩), .sh (.int p.2),l, .sh (.int k), .sh (.int ((j:Int)+1)),m]=some (decide (j+1≤k∧w.getD (k - (j+1)) 0=p.1),[.sh (.str ⟨w.toArray⟩),x1,s2, .sh (.str ⟨#[p.1]⟩), .sh (.int p.2),l, .sh (.int k), .sh (.int ((j:Int)+1)),m]):=by
  have lw:w.length≤1000000:=by omega
  by_cases h:j+1≤k
  · have h':(j:Int)+1≤(k:Int):=by omega
    have e1:=yJ (w:=w) (i:=k - (j+1)) (by omega)
    rw [show ((k - (j+1):Nat):Int)=(k:Int) - ((j:Int)+1) by omega] at e1
    simp only [bA,gg,cZ,af,ab,List.getElem?_cons_succ,List.getElem?_cons_zero,Sl.isBr,Bool.false_and,Bool.false_eq_true,dt,look,Sl.val,dR,Cm.i,Cm.s,if_false,Option.bind_some,h',decide_true,Option.map_some,cO,gP,if_true,dO,df,bI,iz,pQ,lw,e1,ii,l_,h,true_and]
  · have h':¬((j:Int)+1≤(k:Int)):=by omega
    simp only [bA,gg,cZ,af,ab,List.getElem?_cons_succ,List.getElem?_cons_zero,Sl.isBr,Bool.false_and,Bool.false_eq_true,dt,look,Sl.val,dR,Cm.i,Cm.s,if_false,Option.bind_some,h',decide_false,Option.map_some,cO,gP,if_true,dO,df,bI,iz,h,false_and]
theorem wA (w:List Nat) (hw:w.length≤40) (c:List Pc) (p:Pc) (x1 s2 m:Sl) (hs:IsL s2 (ef w c)) (k j:Nat) (hk:k≤w.length) (hj:j+1≤k) (ht:∀i,i≤w.length→oe p.2 i) (ok:∀i i',i≤w.length→i'≤w.length→bN (NH.i6 w c i) (NH.ch p.2 i')=true):
    bU [.sh (.str ⟨w.toArray⟩),x1,s2, .sh (.str ⟨#[p.1]⟩), .sh (.int p.2), .ow ((i_ w c p k j).map .int), .sh (.int k), .sh (.int ((j:Int)+1)),m]=some ([.sh (.str ⟨w.toArray⟩),x1,s2, .sh (.str ⟨#[p.1]⟩), .sh (.int p.2), .ow ((i_ w c p k (j+1)).map .int), .sh (.int k), .sh (.int (((j+1:Nat):Int)+1)), .sh (.int (NH.ch p.2 (j+1)))], .nx):=by
  have ec:=ki p.2 (j+1) (by omega) (ht _ (by omega))
  rw [show ((j+1:Nat):Int)=(j:Int)+1 by omega] at ec
  have a5:atI ((i_ w c p k j).map PyData.int) (k:Int)=some (.int (NH.i6 w c k+NH.dJ (fun j=>NH.i6 w c (k - (j+1))*NH.ch p.2 (j+1)) j)):=by
    rw [cB,List.getElem?_map,i_,List.getElem?_map,List.getElem?_range (by omega)]
    simp only [Option.map_some,Nat.lt_irrefl,if_false,if_true]
  have a2:atI (ef w c) ((k:Int) - ((j:Int)+1))=some (.int (NH.i6 w c (k - (j+1)))):=by
    rw [show (k:Int) - ((j:Int)+1)=((k - (j+1):Nat):Int) by omega,cB,ef,List.getElem?_map,List.getElem?_map,List.getElem?_range (by omega)]
    rfl
  have ix:tF ((i_ w c p k j).map PyData.int).length (k:Int)=some k:=by
    rw [List.length_map,i_,List.length_map,List.length_range]
    exact Ab (by omega)
  have om:=ok (k - (j+1)) (j+1) (by omega) (by omega)
  have st:((i_ w c p k j).map PyData.int).set k (.int (NH.i6 w c k+NH.dJ (fun j=>NH.i6 w c (k - (j+1))*NH.ch p.2 (j+1)) j+NH.i6 w c (k - (j+1))*NH.ch p.2 (j+1)))=(i_ w c p k (j+1)).map .int:=by
    rw [←List.map_set]
    refine congrArg (List.map PyData.int) ?_
    unfold i_
    rw [Ac]
    refine List.map_congr_left fun i _=>?_
    by_cases e:i=k
    · subst e
      rw [if_pos rfl,if_neg (Nat.lt_irrefl _),if_pos rfl,NH.dJ,Int.add_assoc]
    · simp only [e,if_false]
  have s1:∀l,ak 8 (au bt (ae false (ab 4) (ae false (ab 7) aq))) [.sh (.str ⟨w.toArray⟩),x1,s2, .sh (.str ⟨#[p.1]⟩), .sh (.int p.2),l, .sh (.int k), .sh (.int ((j:Int)+1)),m]=some ([.sh (.str ⟨w.toArray⟩),x1,s2, .sh (.str ⟨#[p.1]⟩), .sh (.int p.2),l, .sh (.int k), .sh (.int ((j:Int)+1)), .sh (.int (NH.ch p.2 (j+1)))], .nx):=fun l=>by
    have q:au bt (ae false (ab 4) (ae false (ab 7) aq)) [.sh (.str ⟨w.toArray⟩),x1,s2, .sh (.str ⟨#[p.1]⟩), .sh (.int p.2),l, .sh (.int k), .sh (.int ((j:Int)+1)),m]=some (.sh (.int (NH.ch p.2 (j+1))),[.sh (.str ⟨w.toArray⟩),x1,s2, .sh (.str ⟨#[p.1]⟩), .sh (.int p.2),l, .sh (.int k), .sh (.int ((j:Int)+1)),m]):=fg rfl rfl ec
    exact mI (i:=8) q (show 8 < 9 by decide)
  have n1:((j+1:Nat):Int)+1=(j:Int)+1+1:=by omega
  rw [bU,aY (s1 _),n1]
  rcases hs with rfl | rfl
  · simp only [ap,lX,af,ab,List.getElem?_cons_succ,List.getElem?_cons_zero,Sl.isBr,Bool.false_and,Bool.false_eq_true,dO,look,Sl.val,df,bI,if_false,Option.bind_some,Option.any_some,a5,Option.map_some,cO,dt,gP,if_true,eZ,bh,a2,Bool.not_false,Bool.true_or,Bool.and_true,om,frz,List.set_cons_succ,List.set_cons_zero,ix,st,ak,pC,PL.settle,frzAll,List.length_cons,List.length_nil,Nat.zero_add,Nat.reduceAdd,Nat.reduceLT]
  · simp only [ap,lX,af,ab,List.getElem?_cons_succ,List.getElem?_cons_zero,Sl.isBr,Bool.false_and,Bool.false_eq_true,dO,look,Sl.val,df,bI,if_false,Option.bind_some,Option.any_some,a5,Option.map_some,cO,dt,gP,if_true,eZ,bh,a2,Bool.not_false,Bool.true_or,Bool.and_true,om,frz,List.set_cons_succ,List.set_cons_zero,ix,st,ak,pC,PL.settle,frzAll,List.length_cons,List.length_nil,Nat.zero_add,Nat.reduceAdd,Nat.reduceLT]
theorem oh (w:List Nat) (hw:w.length≤40) (c:List Pc) (p:Pc) (x1 s2:Sl) (hs:IsL s2 (ef w c)) (k:Nat) (hk:k≤w.length) (ht:∀i,i≤w.length→oe p.2 i) (ok:∀i i',i≤w.length→i'≤w.length→bN (NH.i6 w c i) (NH.ch p.2 i')=true):∀(r j:Nat) (m:Sl),j+r=NH.d_ p.1 (w.take k).reverse→∃y m',
    b4 bA bU (r+1) [.sh (.str ⟨w.toArray⟩),x1,s2, .sh (.str ⟨#[p.1]⟩), .sh (.int p.2), .ow ((i_ w c p k j).map .int), .sh (.int k), .sh (.int ((j:Int)+1)),m]=some ([.sh (.str ⟨w.toArray⟩),x1,s2, .sh (.str ⟨#[p.1]⟩), .sh (.int p.2), .ow ((i_ w c p k (NH.d_ p.1 (w.take k).reverse)).map .int), .sh (.int k),y,m'], .nx)
  | 0,j,m,e=>by
    have t:=qU w (by omega) p x1 s2 (.ow ((i_ w c p k j).map .int)) m k j hk
    have f:¬(j+1≤k∧w.getD (k - (j+1)) 0=p.1):=fun ⟨h1,h2⟩=>by
      have:=og p.1 (w.take k).reverse
      rw [←e,Nat.add_zero,u8 w k j hk (by omega),h2] at this
      exact this rfl
    rw [decide_eq_false f] at t
    refine ⟨.sh (.int ((j:Int)+1)),m,?_⟩
    rw [b4,t,←e]
    rfl
  | r+1,j,m,e=>by
    have t:=qU w (by omega) p x1 s2 (.ow ((i_ w c p k j).map .int)) m k j hk
    have ll:=sJ p.1 w k hk
    have f:j+1≤k∧w.getD (k - (j+1)) 0=p.1:=by
      have:=qT p.1 (w.take k).reverse j (by omega)
      rw [u8 w k j hk (by omega)] at this
      exact ⟨by omega,Option.some.inj this⟩
    rw [decide_eq_true f] at t
    obtain ⟨y,m',ih⟩:=oh w hw c p x1 s2 hs k hk ht ok r (j+1) (.sh (.int (NH.ch p.2 (j+1)))) (by omega)
    refine ⟨y,m',?_⟩
    rw [b4,t,Option.bind_some,if_pos rfl,wA w hw c p x1 s2 m hs k j hk f.1 ht ok,Option.bind_some]
    exact ih
theorem u9 (w:List Nat) (c:List Pc) (p:Pc) (k:Nat) (hk:k≤w.length):i_ w c p k (NH.d_ p.1 (w.take k).reverse)=i_ w c p (k+1) 0:=by
  unfold i_
  refine List.map_congr_left fun i _=>?_
  by_cases h1:i < k
  · rw [if_pos h1,if_pos (by omega)]
  · by_cases h2:i=k
    · subst h2
      rw [if_neg h1,if_pos rfl,if_pos (by omega),NH.j0 w c p i hk]
    · rw [if_neg h1,if_neg h2,if_neg (by omega)]
      by_cases h3:i=k+1
      · subst h3
        rw [if_pos rfl]
        simp [NH.dJ]
      · rw [if_neg h3]
theorem qV (w:List Nat) (hw:w.length≤40) (c:List Pc) (p:Pc) (x1 s2:Sl) (hs:IsL s2 (ef w c)) (ht:∀i,i≤w.length→oe p.2 i) (ok:∀i i',i≤w.length→i'≤w.length→bN (NH.i6 w c i) (NH.ch p.2 i')=true):∀(n k:Nat) (a b d:Sl),k+n=w.length+1→∃a' b' d',
    bg cD bV (gl k n) [.sh (.str ⟨w.toArray⟩),x1,s2, .sh (.str ⟨#[p.1]⟩), .sh (.int p.2), .ow ((i_ w c p k 0).map .int),a,b,d]=some ([.sh (.str ⟨w.toArray⟩),x1,s2, .sh (.str ⟨#[p.1]⟩), .sh (.int p.2), .ow ((i_ w c p (w.length+1) 0).map .int),a',b',d'], .nx)
  | 0,k,a,b,d,e=>⟨a,b,d,by rw [show k=w.length+1 by omega];rfl⟩
  | n+1,k,a,b,d,e=>by
    obtain ⟨y,m',h⟩:=oh w hw c p x1 s2 hs k (by omega) ht ok (NH.d_ p.1 (w.take k).reverse) 0 d (by omega)
    have wh:=rX h
    rw [u9 w c p k (by omega),Int.natCast_zero,Int.zero_add] at wh
    obtain ⟨a',b',d',ih⟩:=qV w hw c p x1 s2 hs ht ok n (k+1) (.sh (.int k)) y m' (by omega)
    refine ⟨a',b',d',?_⟩
    have step:(cD (.int k) [.sh (.str ⟨w.toArray⟩),x1,s2, .sh (.str ⟨#[p.1]⟩), .sh (.int p.2), .ow ((i_ w c p k 0).map .int),a,b,d]).bind bV=some ([.sh (.str ⟨w.toArray⟩),x1,s2, .sh (.str ⟨#[p.1]⟩), .sh (.int p.2), .ow ((i_ w c p (k+1) 0).map .int), .sh (.int k),y,m'], .nx):=by
      rw [bV]
      show ap (ak 7 (pC (.int 1))) (iG bA bU) [.sh (.str ⟨w.toArray⟩),x1,s2, .sh (.str ⟨#[p.1]⟩), .sh (.int p.2), .ow ((i_ w c p k 0).map .int), .sh (.int k),b,d]=_
      exact (aY (f:=ak 7 (pC (.int 1))) (E1:=[.sh (.str ⟨w.toArray⟩),x1,s2, .sh (.str ⟨#[p.1]⟩), .sh (.int p.2), .ow ((i_ w c p k 0).map .int), .sh (.int k), .sh (.int 1),d]) rfl).trans wh
    rw [eP,bg,step]
    exact ih
theorem sK (w:List Nat) (c:List Pc) (p:Pc):(i_ w c p 1 0).map PyData.int=ef w c:=by
  unfold i_ ef
  congr 1
  refine List.map_congr_left fun i _=>?_
  by_cases h1:i < 1
  · have:i=0:=by omega
    subst this
    rw [if_pos h1,NH.j0 w c p 0 (by omega)]
    simp [NH.d_,NH.dJ]
  · rw [if_neg h1]
    split
    · rename_i e;subst e;simp [NH.dJ]
    · rfl
theorem u_ (w:List Nat) (c:List Pc) (p:Pc):(i_ w c p (w.length+1) 0).map PyData.int=ef w (c++[p]):=by
  unfold i_ ef
  congr 1
  refine List.map_congr_left fun i hi=>?_
  rw [if_pos (by simpa using hi)]
theorem va (w:List Nat) (hw:w.length≤40) (c:List Pc) (p:Pc) (x1 s2 a b e f g h:Sl) (hs:IsL s2 (ef w c)) (ht:∀i,i≤w.length→oe p.2 i) (ok:∀i i',i≤w.length→i'≤w.length→bN (NH.i6 w c i) (NH.ch p.2 i')=true):∃s2' a' b' e' f' g' h',IsL s2' (ef w (c++[p]))∧
    (bW (aw p) [.sh (.str ⟨w.toArray⟩),x1,s2,a,b,e,f,g,h]).bind cE=some ([.sh (.str ⟨w.toArray⟩),x1,s2',a',b',e',f',g',h'], .nx):=by
  obtain ⟨f',g',h',l⟩:=qV w hw c p x1 s2 hs ht ok w.length 1 f g h (by omega)
  rw [sK,u_] at l
  have tt:bW (aw p) [.sh (.str ⟨w.toArray⟩),x1,s2,a,b,e,f,g,h]=some [.sh (.str ⟨w.toArray⟩),x1,s2, .sh (.str ⟨#[p.1]⟩), .sh (.int p.2),e,f,g,h]:=by
    simp only [bW,dY,aw,List.length_cons,List.length_nil,Nat.zero_add,Nat.reduceAdd,bD,az,Nat.reduceLT,List.set_cons_succ,List.set_cons_zero,if_true,Option.bind_some,dX,List.isEmpty_nil]
  have fl:aO (ef w c)=true:=g5 _
  have s5:ak 5 (fk (ab 2)) [.sh (.str ⟨w.toArray⟩),x1,s2, .sh (.str ⟨#[p.1]⟩), .sh (.int p.2),e,f,g,h]=some ([.sh (.str ⟨w.toArray⟩),x1,s2, .sh (.str ⟨#[p.1]⟩), .sh (.int p.2), .ow (ef w c),f,g,h], .nx):=by
    rcases hs with rfl | rfl
    · simp only [ak,fk,ab,List.getElem?_cons_succ,List.getElem?_cons_zero,look,Sl.val,df,bI,Option.bind_some,Bool.not_false,fl,Bool.or_true,if_true,PL.settle,frz,frzAll,List.length_cons,List.length_nil,Nat.zero_add,Nat.reduceAdd,Nat.reduceLT,List.set_cons_succ,List.set_cons_zero]
    · simp only [ak,fk,ab,List.getElem?_cons_succ,List.getElem?_cons_zero,look,Sl.val,df,bI,Option.bind_some,Option.any_some,Bool.not_false,fl,Bool.or_true,if_true,PL.settle,frz,frzAll,List.length_cons,List.length_nil,Nat.zero_add,Nat.reduceAdd,Nat.reduceLT,List.set_cons_succ,List.set_cons_zero]
  have lw:w.length≤1000000:=by omega
  have h1:(ae false (pC (.int 1)) (ae false (af bh false (ck dP (ae false (ab 0) aq)) (pC (.int 1))) aq)) [.sh (.str ⟨w.toArray⟩),x1,s2, .sh (.str ⟨#[p.1]⟩), .sh (.int p.2), .ow (ef w c),f,g,h]=some ([.sh (.int 1), .sh (.int ((w.length:Int)+1))],[.sh (.str ⟨w.toArray⟩),x1,s2, .sh (.str ⟨#[p.1]⟩), .sh (.int p.2), .ow (ef w c),f,g,h]):=by
    simp only [ae,pC,Sl.isBr,Bool.false_and,Bool.false_eq_true,af,ck,ab,aq,Option.map_some,if_false,dP,bh,look,Sl.val,df,bI,Option.bind_some,Bool.not_false,Bool.true_or,Bool.and_true,List.getElem?_cons_zero,aZ,pQ,lw,if_true]
  have hi:=qR h1 rfl (by omega)
  rw [show ((w.length:Int)+1 - 1).toNat=w.length by omega] at hi
  have fo:=hV (tg:=cD) (body:=bV) hi l
  refine ⟨.sh (.list (ef w (c++[p]))), .sh (.str ⟨#[p.1]⟩), .sh (.int p.2), .sh (.list (ef w (c++[p]))),f',g',h',Or.inl rfl,?_⟩
  rw [tt,Option.bind_some,cE,aY s5,aY fo]
  rfl
theorem vb (w:List Nat) (hw:w.length≤40) (x1:Sl) (c:List Pc) (hf:sG w c):∀(c2 c1:List Pc) (s2 a b e f g h:Sl),c1++c2=c→IsL s2 (ef w c1)→∃s2' a' b' e' f' g' h',IsL s2' (ef w c)∧bg bW cE (c2.map aw) [.sh (.str ⟨w.toArray⟩),x1,s2,a,b,e,f,g,h]=some ([.sh (.str ⟨w.toArray⟩),x1,s2',a',b',e',f',g',h'], .nx)
  | [],c1,s2,a,b,e,f,g,h,q,hs=>⟨s2,a,b,e,f,g,h,by rw [List.append_nil] at q;rw [←q];exact hs,rfl⟩
  | p::c2,c1,s2,a,b,e,f,g,h,q,hs=>by
    have hS:NH.bi c1≤NH.bi c:=by rw [←q,NH.fb];omega
    have hl:c1.length≤c.length:=by rw [←q,List.length_append];omega
    have hp:p.2.natAbs≤NH.bi c:=NH.jZ (by rw [←q];simp)
    obtain ⟨s2',a',b',e',f',g',h',i1,e1⟩:=va w hw c1 p x1 s2 a b e f g h hs (fun i hi=>⟨mH hf (by omega) hi,Nat.lt_of_le_of_lt (by omega) hf.2⟩) (fun i i' _ hi'=>io (wx hf hS hl i) (yK hf hp hi'))
    obtain ⟨s3,a3,b3,e3,f3,g3,h3,i2,e2⟩:=vb w hw x1 c hf c2 (c1++[p]) s2' a' b' e' f' g' h' (by rw [List.append_assoc];exact q) i1
    refine ⟨s3,a3,b3,e3,f3,g3,h3,i2,?_⟩
    rw [List.map_cons,bg,e1]
    exact e2
theorem mJ (w:List Nat) (c:List Pc) (hw:w.length≤40) (hf:sG w c):bG [.str ⟨w.toArray⟩, .list (c.map aw)]=some (.sh (.int (NH.aB w c))):=by
  have ln:(⟨w.toArray⟩:Str).length=w.length:=pQ w
  have lw:w.length≤1000000:=by omega
  have b1: -1000000≤(w.length:Int):=by omega
  have b2:(w.length:Int)≤1000000:=by omega
  have r1:1*w.length≤1000000:=by omega
  have lr:1+(List.replicate w.length (PyData.int 0)).length≤1000000:=by simp;omega
  have s2:ak 2 (af bh false (cP (ar (pC (.int 1)) aR)) (af eZ false (cP (ar (pC (.int 0)) aR)) (ck dP (ae false (ab 0) aq)))) [.sh (.str ⟨w.toArray⟩), .sh (.list (c.map aw)), .no, .no, .no, .no, .no, .no, .no]=some ([.sh (.str ⟨w.toArray⟩), .sh (.list (c.map aw)), .ow (ef w []), .no, .no, .no, .no, .no, .no], .nx):=by
    rw [ef,←ww w]
    simp only [ak,af,cP,ar,pC,frz,aR,Option.map_some,Option.bind_some,List.length_cons,List.length_nil,Nat.zero_add,Nat.reduceLeDiff,if_true,Sl.isBr,Bool.false_and,Bool.false_eq_true,ck,ae,ab,aq,if_false,dP,eZ,look,Sl.val,df,bI,Bool.not_false,Bool.true_or,Bool.and_true,bh,List.getElem?_cons_zero,aZ,ln,lw,Int.toNat_natCast,r1,b1,b2,and_self,decide_true,sH,lr,List.cons_append,List.nil_append,PL.settle,frzAll,Nat.reduceAdd,Nat.reduceLT,List.set_cons_succ,List.set_cons_zero]
  obtain ⟨s2',a',b',e',f',g',h',i1,e1⟩:=vb w hw (.sh (.list (c.map aw))) c hf c [] (.ow (ef w [])) .no .no .no .no .no .no rfl (Or.inr rfl)
  have it:dZ (ab 1) [.sh (.str ⟨w.toArray⟩), .sh (.list (c.map aw)), .ow (ef w []), .no, .no, .no, .no, .no, .no]=some (c.map aw,[.sh (.str ⟨w.toArray⟩), .sh (.list (c.map aw)), .ow (ef w []), .no, .no, .no, .no, .no, .no]):=by
    simp only [dZ,ab,List.getElem?_cons_succ,List.getElem?_cons_zero,frz,Option.bind_some]
  have at1:atI (ef w c) (w.length:Int)=some (.int (NH.aB w c)):=by
    rw [ef,cB,List.getElem?_map,List.getElem?_map,List.getElem?_range (by omega)]
    simp [NH.i6]
  have g:bG [.str ⟨w.toArray⟩, .list (c.map aw)]=(ee [.sh (.str ⟨w.toArray⟩), .sh (.list (c.map aw)), .no, .no, .no, .no, .no, .no, .no]).bind fun a=>match a.2 with | .rt r=>dC r | .nx=>some (.sh .none) | _=>none:=rfl
  rw [g,ee,aY s2,aY (hV it e1)]
  rcases i1 with rfl | rfl
  · simp only [bP,af,ab,List.getElem?_cons_succ,List.getElem?_cons_zero,Sl.isBr,Bool.false_and,Bool.false_eq_true,ck,ae,aq,Option.map_some,if_false,dP,dO,look,Sl.val,df,bI,Option.bind_some,aZ,ln,lw,if_true,at1,dC,cM,cJ]
  · simp only [bP,af,ab,List.getElem?_cons_succ,List.getElem?_cons_zero,Sl.isBr,Bool.false_and,Bool.false_eq_true,ck,ae,aq,Option.map_some,if_false,dP,dO,look,Sl.val,df,bI,Option.bind_some,aZ,ln,lw,if_true,Option.any_some,at1,dC,cM,cJ]
theorem gV (x0:Sl):∀(c:List Pc) (st:List Pc) (a b d:Sl),st.length+c.length≤100000→∃a' b' d',bg aH aI (c.map aw) [x0, .ow (st.reverse.map aw),a,b,d]=some ([x0, .ow ((c.foldl NH.stp st).reverse.map aw),a',b',d'], .nx)
  | [],st,a,b,d,_=>⟨a,b,d,rfl⟩
  | p::c,st,a,b,d,h=>by
    have step:∃a' b' d',(aH (aw p) [x0, .ow (st.reverse.map aw),a,b,d]).bind aI=some ([x0, .ow ((NH.stp st p).reverse.map aw),a',b',d'], .nx):=by
      cases st with
      | nil=>
        by_cases z:p.2=0
        · simp only [aH,dY,aw,z,List.length_cons,List.length_nil,Nat.zero_add,Nat.reduceAdd,bD,az,List.reverse_nil,List.map_nil,Nat.reduceLT,List.set_cons_succ,List.set_cons_zero,if_true,Option.bind_some,dX,List.isEmpty_nil,aI,iz,kL,ap,ak,ab,List.getElem?_cons_succ,List.getElem?_cons_zero,PL.settle,frz,frzAll,bw,gg,fJ,Sl.val,cZ,af,Sl.isBr,Bool.false_and,Bool.false_eq_true,jk,pC,look,gI,Option.map_some,dO,df,bI,if_false,dt,lW,bh,bb,bR,aG,c_,ar,aR,h6,Bool.not_true,Option.any_some,Nat.reduceSub,b5,decide_true,Nat.reduceLeDiff,List.nil_append,NH.stp]
          exact ⟨_,_,_,rfl⟩
        · simp only [aH,dY,aw,List.length_cons,List.length_nil,Nat.zero_add,Nat.reduceAdd,bD,az,List.reverse_nil,List.map_nil,Nat.reduceLT,List.set_cons_succ,List.set_cons_zero,if_true,Option.bind_some,dX,List.isEmpty_nil,aI,iz,kL,ap,ak,ab,List.getElem?_cons_succ,List.getElem?_cons_zero,PL.settle,frz,frzAll,bw,gg,fJ,Sl.val,cZ,af,Sl.isBr,Bool.false_and,Bool.false_eq_true,jk,pC,look,gI,Option.map_some,dO,df,bI,if_false,dt,lW,bh,bb,bR,aG,c_,ar,aR,h6,Bool.not_true,Option.any_some,Nat.reduceSub,b5,z,decide_false,Bool.not_false,Nat.reduceLeDiff,List.nil_append,NH.stp]
          exact ⟨_,_,_,rfl⟩
      | cons q st=>
        have lb:st.length < 1000000∧st.length+1 < 1000000:=by simp at h;omega
        by_cases e:q.1=p.1
        · by_cases z:q.2+p.2=0
          · simp only [aH,dY,bD,az,List.reverse_cons,List.map_append,List.map_cons,List.map_nil,List.length_cons,List.length_nil,Nat.zero_add,Nat.reduceAdd,Nat.reduceLT,List.set_cons_succ,List.set_cons_zero,if_true,Option.bind_some,dX,aI,iz,kL,NH.stp]
            simp only [aw,List.length_cons,List.length_nil,Nat.zero_add,Nat.reduceAdd,List.isEmpty_nil,e,if_true,Option.bind_some,ap,ak,ab,List.getElem?_cons_succ,List.getElem?_cons_zero,PL.settle,frz,frzAll,Nat.reduceLT,List.set_cons_succ,List.set_cons_zero,bw,gg,fJ,Sl.val,cZ,af,Sl.isBr,Bool.false_and,Bool.false_eq_true,jk,pC,look,gI,Option.map_some,dO,df,bI,if_false,dt,lW,bh,bb,bR,aG,c_,ar,aR,h6,jm,Bool.not_false,Option.any_some,ie,nn,ii,decide_true,List.dropLast_concat,lY,nq,Bool.true_or,Bool.and_true,z,b5,Bool.not_true,Nat.reduceLeDiff]
            simp [aw]
          · simp only [aH,dY,bD,az,List.reverse_cons,List.map_append,List.map_cons,List.map_nil,List.length_cons,List.length_nil,Nat.zero_add,Nat.reduceAdd,Nat.reduceLT,List.set_cons_succ,List.set_cons_zero,if_true,Option.bind_some,dX,aI,iz,kL,NH.stp]
            simp only [aw,List.length_cons,List.length_nil,Nat.zero_add,Nat.reduceAdd,List.isEmpty_nil,e,if_true,Option.bind_some,ap,ak,ab,List.getElem?_cons_succ,List.getElem?_cons_zero,PL.settle,frz,frzAll,Nat.reduceLT,List.set_cons_succ,List.set_cons_zero,bw,gg,fJ,Sl.val,cZ,af,Sl.isBr,Bool.false_and,Bool.false_eq_true,jk,pC,look,gI,Option.map_some,dO,df,bI,if_false,dt,lW,bh,bb,bR,aG,c_,ar,aR,h6,jm,Bool.not_false,Option.any_some,ie,nn,ii,decide_true,List.dropLast_concat,lY,nq,Bool.true_or,Bool.and_true,b5,z,decide_false,Nat.reduceLeDiff,List.length_map,List.length_reverse,lb]
            simp [aw]
        · by_cases z:p.2=0
          · simp only [aH,dY,bD,az,List.reverse_cons,List.map_append,List.map_cons,List.map_nil,List.length_cons,List.length_nil,Nat.zero_add,Nat.reduceAdd,Nat.reduceLT,List.set_cons_succ,List.set_cons_zero,if_true,Option.bind_some,dX,aI,iz,kL,NH.stp]
            simp only [aw,z,List.length_cons,List.length_nil,Nat.zero_add,Nat.reduceAdd,List.isEmpty_nil,if_true,Option.bind_some,ap,ak,ab,List.getElem?_cons_succ,List.getElem?_cons_zero,PL.settle,frz,frzAll,Nat.reduceLT,List.set_cons_succ,List.set_cons_zero,bw,gg,fJ,Sl.val,cZ,af,Sl.isBr,Bool.false_and,Bool.false_eq_true,jk,pC,look,gI,Option.map_some,dO,df,bI,if_false,dt,lW,bh,bb,bR,aG,c_,ar,aR,h6,jm,Bool.not_false,Option.any_some,ie,nn,ii,l_,e,decide_false,List.dropLast_concat,lY,nq,Bool.true_or,Bool.and_true,b5,decide_true,Bool.not_true,Nat.reduceLeDiff]
            simp [aw]
          · simp only [aH,dY,bD,az,List.reverse_cons,List.map_append,List.map_cons,List.map_nil,List.length_cons,List.length_nil,Nat.zero_add,Nat.reduceAdd,Nat.reduceLT,List.set_cons_succ,List.set_cons_zero,if_true,Option.bind_some,dX,aI,iz,kL,NH.stp]
            simp only [aw,List.length_cons,List.length_nil,Nat.zero_add,Nat.reduceAdd,List.isEmpty_nil,if_true,Option.bind_some,ap,ak,ab,List.getElem?_cons_succ,List.getElem?_cons_zero,PL.settle,frz,frzAll,Nat.reduceLT,List.set_cons_succ,List.set_cons_zero,bw,gg,fJ,Sl.val,cZ,af,Sl.isBr,Bool.false_and,Bool.false_eq_true,jk,pC,look,gI,Option.map_some,dO,df,bI,if_false,dt,lW,bh,bb,bR,aG,c_,ar,aR,h6,jm,Bool.not_false,Option.any_some,ie,nn,ii,l_,e,decide_false,List.dropLast_concat,List.length_append,List.length_map,List.length_reverse,b5,z,Nat.reduceLeDiff,lb]
            simp [aw]
    obtain ⟨a',b',d',e⟩:=step
    have ih:=gV x0 c (NH.stp st p) a' b' d' (by have:=NH.qa st p;simp at h;omega)
    obtain ⟨a2,b2,d2,e2⟩:=ih
    refine ⟨a2,b2,d2,?_⟩
    rw [List.map_cons,bg,e]
    exact e2
theorem kj (c:List Pc) (h:c.length≤100000):cc [.list (c.map aw)]=some (.ow ((NH.short c).map aw)):=by
  obtain ⟨a,b,d,e⟩:=gV (.sh (.list (c.map aw))) c [] .no .no .no (by simpa using h)
  simp only [List.reverse_nil,List.map_nil] at e
  simp only [cc,g4,List.length_cons,List.length_nil,Nat.zero_add,je,eM,ap,ak,cP,aR,cA,List.map_cons,List.map_nil,Nat.reduceSub,List.replicate,List.cons_append,List.nil_append,Option.bind_some,Nat.reduceLeDiff,if_true,PL.settle,frz,frzAll,Nat.reduceAdd,Nat.reduceLT,List.set_cons_succ,List.set_cons_zero,eK,dZ,ab,bP,List.getElem?_cons_zero,e,List.getElem?_cons_succ,Option.map_some,dC,cM,cC,Option.some.injEq]
  rfl
theorem qW:∀c:List Pc,sx (c.map aw)=some c
  | []=>rfl
  | p::c=>by
    show (sx (c.map aw)).map _=_
    rw [qW c]
    rfl
theorem wB (r:List Pc) (p:Pc):∀q∈NH.stp r p,q.1=p.1∨q∈r:=by
  intro q hq
  obtain ⟨n,a⟩:=p
  cases r with
  | nil=>
    have hq:q∈(if a=0 then [] else [((n,a):Pc)]):=hq
    split at hq
    · cases hq
    · rw [List.mem_singleton.mp hq];exact .inl rfl
  | cons x r=>
    obtain ⟨m,b⟩:=x
    have hq:q∈(if m=n then (if b+a=0 then r else (n,b+a)::r) else (if a=0 then (m,b)::r else (n,a)::(m,b)::r)):=hq
    split at hq
    · split at hq
      · exact .inr (List.mem_cons_of_mem _ hq)
      · rcases List.mem_cons.mp hq with z | z
        · rw [z];exact .inl rfl
        · exact .inr (List.mem_cons_of_mem _ z)
    · split at hq
      · exact .inr hq
      · rcases List.mem_cons.mp hq with z | z
        · rw [z];exact .inl rfl
        · exact .inr z
theorem oj:∀(c r:List Pc) (q:Pc),q∈c.foldl NH.stp r→q.1∈c.map (·.1)∨q.1∈r.map (·.1)
  | [],r,q,h=> .inr (List.mem_map.mpr ⟨q,h,rfl⟩)
  | p::c,r,q,h=>by
    rcases oj c (NH.stp r p) q h with z | z
    · exact .inl (List.mem_cons_of_mem _ z)
    · obtain ⟨x,hx,e⟩:=List.mem_map.mp z
      rcases wB r p x hx with y | y
      · exact .inl (by rw [←e,y];exact List.mem_cons_self ..)
      · exact .inr (by rw [←e];exact List.mem_map.mpr ⟨x,y,rfl⟩)
theorem sM (c:List Pc):∀a∈(NH.short c).map (·.1),a∈c.map (·.1):=fun a ha=>by
  obtain ⟨q,hq,rfl⟩:=List.mem_map.mp ha
  rcases oj c [] q (List.mem_reverse.mp hq) with z | z
  · exact z
  · cases z
theorem mK {b n:Nat} (hb:b≤2 ^ 110) (hn:n≤40):b ^ n < 2 ^ 20000:=by
  refine Nat.lt_of_le_of_lt (Nat.le_trans (Nat.pow_le_pow_left hb n) (Nat.pow_le_pow_right (Nat.two_pow_pos _) hn)) ?_
  rw [←Nat.pow_mul]
  exact Nat.pow_lt_pow_right (by decide) (by decide)
theorem wC {b:Nat} (hb:b≤2 ^ 110):b < 2 ^ 20000:=by
  have:=mK hb (n:=1) (by decide)
  rwa [Nat.pow_one] at this
theorem io {i j:Int} (hi:i.natAbs < 2 ^ 20000) (hj:j.natAbs < 2 ^ 20000):bN i j=true:=by
  have e:((2 ^ 20000:Nat):Int)=oB:=by unfold oB;exact Int.natCast_pow 2 20000
  unfold bN
  generalize oB=z at *
  generalize (2 ^ 20000:Nat)=y at *
  simp only [Bool.or_eq_true,decide_eq_true_eq]
  exact .inr (by omega)
theorem on {t:Int} {k:Nat} (ht:t.natAbs≤2 ^ 104) (hk:k≤8):(NH.ch t k).natAbs < 2 ^ 20000:=
  Nat.lt_of_le_of_lt (NH.qA t k) (mK (b:=t.natAbs+k) (by omega) (by omega))
theorem oo {c:List Pc} (hs:NH.bi c≤2 ^ 104) (hl:c.length≤12) {w:List Nat} (hw:w.length≤8):(NH.aB w c).natAbs < 2 ^ 20000:=by
  refine Nat.lt_of_le_of_lt (NH.jY (L:=8) c w hw) (mK ?_ (by omega))
  omega
structure Few (ls:List Nat) (n:Nat):Prop where
  n5:n≤5
  pow:∀j,j≤n→ls.length ^ j≤1024
theorem wD {ls:List Nat} {n:Nat} (F:Few ls n) {c0:List Pc} {f:Nat→Tb} (h:RT c0 n f) (hin:∀a∈c0.map (·.1),a∈ls) (hs:NH.bi c0≤2 ^ 104) (hl:c0.length≤12) (p:Pc) (hp:p.2.natAbs≤2 ^ 104):pK aE n f p:=by
  have n5:=F.n5
  refine ⟨?_,fun j hj=>?_⟩
  · have:=yI p.2 n (by omega) fun k hk=>io (on hp (by omega)) (wC (by omega))
    rw [List.map_map] at this
    exact this
  · obtain ⟨l,k⟩:=u5 hin h j hj
    have:=F.pow j hj
    refine ⟨by omega,fun q hq=>?_⟩
    obtain ⟨e1,e2,e3⟩:=k q hq
    refine ⟨by omega,fun i hi=>io ?_ (on hp (by omega))⟩
    rw [e1]
    exact oo hs hl (by omega)
theorem qX {ls:List Nat} {n:Nat} (F:Few ls n) {sc:List Pc} (hin:∀a∈sc.map (·.1),a∈ls) (hs:NH.bi sc≤2 ^ 104) (hl:sc.length≤12):∀(c2 c1:List Pc) (f:Nat→Tb),c1++c2=sc→RT c1 n f→mD aE n c2 f∧RT sc n (sy c2 f)
  | [],c1,f,e,h=>by
    rw [List.append_nil] at e
    subst e
    refine ⟨?_,h⟩
    have:=(u5 hin h n (Nat.le_refl _)).1
    have:=F.pow n (Nat.le_refl _)
    show (f n).length < 65536
    omega
  | p::c2,c1,f,e,h=>by
    have hm:∀q∈c1,q∈sc:=fun q hq=>by rw [←e];exact List.mem_append_left _ hq
    have hs1:NH.bi c1+NH.bi (p::c2)=NH.bi sc:=by rw [←NH.fb,e]
    have hp:p.2.natAbs≤NH.bi sc:=NH.jZ (by rw [←e];simp)
    have hl1:c1.length≤sc.length:=by rw [←e];simp
    obtain ⟨r1,r2⟩:=qX F hin hs hl c2 (c1++[p]) (u0 p f) (by rw [List.append_assoc];exact e) (h.next p)
    exact ⟨⟨wD F h (fun a ha=>by obtain ⟨q,hq,rfl⟩:=List.mem_map.mp ha;exact hin _ (List.mem_map.mpr ⟨q,hm q hq,rfl⟩)) (by omega) (by omega) p (by omega),r1⟩,r2⟩
theorem uA {c:List Pc} (hc:CordOk c) (hl:c.length≤12):NH.bi c≤2 ^ 104:=by
  have h:=NH.mh (B:=2 ^ 100) c fun p hp=>(hc p hp).2
  have:c.length*2 ^ 100≤12*2 ^ 100:=Nat.mul_le_mul_right _ hl
  omega
theorem wE {ls:List Nat} {n:Nat} (F:Few ls n) (hls:ls.Nodup) (c:List Pc) (hc:CordOk c) (hl:c.length≤12) (hin:∀a∈c.map (·.1),a∈ls):bM [.list (c.map aw), .int n]=some (.ow ((cU (fE ls c n)).map bB)):=by
  have n5:=F.n5
  have sl:=NH.rL c
  have ss:=NH.ph c
  have sk:=uA hc hl
  obtain ⟨r1,r2⟩:=qX F (sc:=NH.short c) (fun a ha=>hin a (sM c a ha)) (by omega) (by omega) (NH.short c) [] gL rfl (RT.start n)
  have e1:=kj c (by omega)
  have e2:=qW (NH.short c)
  have q:=sC hls (fun w=>NH.nK w c) hin r2
  unfold bM mE
  simp only [e1,e2,Option.bind_some,Int.toNat_natCast]
  rw [if_pos ⟨by omega,by omega,r1⟩,q]
abbrev tx (w:List Nat):PyData:= .str ⟨w.toArray⟩
abbrev dr (x:Nat):PyData:= .str ⟨#[x]⟩
theorem yM (w:List Nat):(⟨w.toArray⟩:Str).length=w.length:=by show w.toArray.size=_;simp
theorem oq:∀L:List (List Nat),aO (L.map tx)=true
  | []=>rfl
  | w::L=>by simp [aO,cJ,oq L]
theorem ka {f g:b7} {E:List Sl} {s1 s2:Sl} (hf:f E=some (s1,E)) (hg:g E=some (s2,E)):ae false f (ae false g aq) E=some ([s1,s2],E):=by
  simp only [ae,hf,Sl.isBr,Bool.false_and,Bool.false_eq_true,aq,Option.map_some,if_false,Option.bind_some,hg]
theorem iW {p:P2} {f g:b7} {E E1 E2:List Sl} {s1 s2:Sl} (hf:f E=some (s1,E1)) (hg:g E1=some (s2,E2)):af p false f g E=p E2 s1 s2:=by
  unfold af
  rw [hf,Option.bind_some]
  show (g E1).bind _=_
  rw [hg]
  rfl
theorem wF (x0 x1 a:Sl) (r:List Nat) (hr:r.length≤1000) (acc:List PyData) (ha:acc.length < 1000000) (x:Nat):(cV (dr x) [x0,x1, .ow acc, .sh (tx r),a]).bind cW=some ([x0,x1, .ow (acc++[tx (r++[x])]), .sh (tx r), .sh (dr x)], .nx):=by
  have e1:(⟨r.toArray⟩:Str)++(⟨#[x]⟩:Str)=⟨(r++[x]).toArray⟩:=Ad r [x]
  have l1:(⟨r.toArray⟩:Str).length+(⟨#[x]⟩:Str).length≤1000000:=by
    rw [yM]
    show r.length+1≤_
    omega
  simp only [cV,az,List.length_cons,List.length_nil,Nat.zero_add,Nat.reduceAdd,Nat.reduceLT,List.set_cons_succ,List.set_cons_zero,if_true,cW,Option.bind_some,bR,aG,List.getElem?_cons_succ,List.getElem?_cons_zero,af,ab,Sl.isBr,Bool.false_and,Bool.false_eq_true,bh,look,Sl.val,df,bI,if_false,Bool.not_false,Bool.true_or,Bool.and_true,l1,e1,frz,ha,Option.map_some]
theorem qY (x0 x1:Sl) (r:List Nat) (hr:r.length≤1000):∀(ls:List Nat) (acc:List PyData) (a:Sl),acc.length+ls.length≤1000000→∃a',bg cV cW (ls.map dr) [x0,x1, .ow acc, .sh (tx r),a]=some ([x0,x1, .ow (acc++(ls.map fun x=>r++[x]).map tx), .sh (tx r),a'], .nx)
  | [],acc,a,_=>⟨a,by simp only [List.map_nil,List.append_nil];rfl⟩
  | x::ls,acc,a,h=>by
    obtain ⟨a',e⟩:=qY x0 x1 r hr ls (acc++[tx (r++[x])]) (.sh (dr x)) (by simp at h ⊢;omega)
    refine ⟨a',?_⟩
    rw [List.map_cons,bg,wF x0 x1 a r hr acc (by simp at h;omega) x]
    show bg _ _ _ _=_
    rw [e,List.append_assoc]
    rfl
theorem ot (x0:Sl) (ls:List Nat):∀(rs:List (List Nat)) (acc:List (List Nat)) (a b:Sl),(∀r∈rs,r.length≤1000)→acc.length+rs.length*ls.length≤1000000→∃a' b',bg cX cY (rs.map tx) [x0, .sh (.list (ls.map dr)), .ow (acc.map tx),a,b]=some ([x0, .sh (.list (ls.map dr)), .ow ((acc++rs.flatMap fun r=>ls.map fun x=>r++[x]).map tx),a',b'], .nx)
  | [],acc,a,b,_,_=>⟨a,b,by simp only [List.flatMap_nil,List.append_nil];rfl⟩
  | r::rs,acc,a,b,hr,h=>by
    have h':acc.length+ls.length+rs.length*ls.length≤1000000:=by
      rw [List.length_cons,Nat.succ_mul] at h
      omega
    obtain ⟨b1,e1⟩:=qY x0 (.sh (.list (ls.map dr))) r (hr r (List.mem_cons_self ..)) ls (acc.map tx) b (by simp;omega)
    obtain ⟨a',b',e2⟩:=ot x0 ls rs (acc++ls.map fun x=>r++[x]) (.sh (tx r)) b1 (fun q hq=>hr q (List.mem_cons_of_mem _ hq)) (by simp;omega)
    refine ⟨a',b',?_⟩
    have tg:cX (tx r) [x0, .sh (.list (ls.map dr)), .ow (acc.map tx),a,b]=some [x0, .sh (.list (ls.map dr)), .ow (acc.map tx), .sh (tx r),b]:=rfl
    have it:dZ (ab 1) [x0, .sh (.list (ls.map dr)), .ow (acc.map tx), .sh (tx r),b]=some (ls.map dr,[x0, .sh (.list (ls.map dr)), .ow (acc.map tx), .sh (tx r),b]):=rfl
    have gb:cY [x0, .sh (.list (ls.map dr)), .ow (acc.map tx), .sh (tx r),b]=some ([x0, .sh (.list (ls.map dr)), .ow ((acc++ls.map fun x=>r++[x]).map tx), .sh (tx r),b1], .nx):=by
      rw [List.map_append]
      exact hV it e1
    rw [List.map_cons,bg,tg,Option.bind_some,gb]
    show bg cX cY (rs.map tx) [x0, .sh (.list (ls.map dr)), .ow ((acc++ls.map fun x=>r++[x]).map tx), .sh (tx r),b1]=_
    rw [e2,List.flatMap_cons,List.append_assoc]
theorem wG (rs:List (List Nat)) (ls:List Nat) (hr:∀r∈rs,r.length≤1000) (h:rs.length*ls.length≤1000000):cF [.list (rs.map tx), .list (ls.map dr)]=some (.ow ((rs.flatMap fun r=>ls.map fun x=>r++[x]).map tx)):=by
  obtain ⟨a',b',e⟩:=ot (.sh (.list (rs.map tx))) ls rs [] .no .no hr (by simp;omega)
  have g:cF [.list (rs.map tx), .list (ls.map dr)]=(eX [.sh (.list (rs.map tx)), .sh (.list (ls.map dr)), .no, .no, .no]).bind fun a=>match a.2 with | .rt r=>dC r | .nx=>some (.sh .none) | _=>none:=rfl
  have it:dZ (ab 0) [.sh (.list (rs.map tx)), .sh (.list (ls.map dr)), .ow (([]:List (List Nat)).map tx), .no, .no]=some (rs.map tx,[.sh (.list (rs.map tx)), .sh (.list (ls.map dr)), .ow (([]:List (List Nat)).map tx), .no, .no]):=rfl
  rw [g,eX,aY (show ak 2 (cP aR) [.sh (.list (rs.map tx)), .sh (.list (ls.map dr)), .no, .no, .no]=some ([.sh (.list (rs.map tx)), .sh (.list (ls.map dr)), .ow (([]:List (List Nat)).map tx), .no, .no], .nx) from rfl),aY (hV it e)]
  show dC (.ow (_))=_
  simp only [dC,cM,oq,if_true,List.nil_append]
def ji:List Pc→List Nat→List Nat
  | [],acc=>acc
  | p::c,acc=>ji c (if acc.contains p.1 then acc else acc++[p.1])
theorem pR:∀(c:List Pc) (acc:List Nat),acc.Nodup→(ji c acc).Nodup
  | [],acc,h=>h
  | p::c,acc,h=>by
    refine pR c _ ?_
    split
    · exact h
    · rename_i e
      exact List.nodup_append.mpr ⟨h,by simp,fun a ha b hb=>by rw [List.mem_singleton.mp hb];exact fun z=>e (by simpa using z▸ha)⟩
theorem qZ:∀(c:List Pc) (acc:List Nat),(∀a∈acc,a∈ji c acc)∧∀a∈c.map (·.1),a∈ji c acc
  | [],acc=>⟨fun a h=>h,fun _ z=>nomatch z⟩
  | p::c,acc=>by
    obtain ⟨h1,h2⟩:=qZ c (if acc.contains p.1 then acc else acc++[p.1])
    have sub:∀a∈acc,a∈(if acc.contains p.1 then acc else acc++[p.1]):=fun a ha=>by
      split
      · exact ha
      · exact List.mem_append_left _ ha
    have hp:p.1∈(if acc.contains p.1 then acc else acc++[p.1]):=by
      split
      · rename_i e;simpa using e
      · simp
    refine ⟨fun a ha=>h1 a (sub a ha),fun a ha=>?_⟩
    rcases List.mem_cons.mp (show a∈p.1::c.map (·.1) from ha) with z | z
    · rw [z];exact h1 _ hp
    · exact h2 a z
theorem pS:∀(c:List Pc) (acc:List Nat),∀a∈ji c acc,a∈acc∨a∈c.map (·.1)
  | [],acc,a,h=> .inl h
  | p::c,acc,a,h=>by
    rcases pS c _ a h with z | z
    · split at z
      · exact .inl z
      · rcases List.mem_append.mp z with y | y
        · exact .inl y
        · exact .inr (by rw [List.mem_singleton.mp y];exact List.mem_cons_self ..)
    · exact .inr (List.mem_cons_of_mem _ z)
theorem mL:∀(c:List Pc) (acc:List Nat),(ji c acc).length≤acc.length+c.length
  | [],acc=>by simp [ji]
  | p::c,acc=>by
    have h:=mL c (if acc.contains p.1 then acc else acc++[p.1])
    have l:(if acc.contains p.1 then acc else acc++[p.1]).length≤acc.length+1:=by split <;> simp
    simp only [ji,List.length_cons]
    omega
theorem q9:∀(w:List Nat),iH (w.map dr)=some (w.map fun a=>(⟨#[a]⟩:Str))
  | []=>rfl
  | a::w=>by simp only [List.map_cons,iH,q9 w,Option.map_some]
theorem vc (x:Nat):∀(w:List Nat),(w.map fun a=>(⟨#[a]⟩:Str)).contains ⟨#[x]⟩=w.contains x
  | []=>rfl
  | a::w=>by
    rw [List.map_cons,List.contains_cons,List.contains_cons,vc x w]
    congr 1
    rw [Bool.eq_iff_iff]
    simp
theorem vd (x0 x1 x2 a b:Sl) (r6 r7:Sl) (acc:List Nat) (ha:acc.length < 1000000) (p:Pc):(dF (aw p) [x0,x1,x2, .ow (acc.map dr),a,b,r6,r7]).bind dG=some ([x0,x1,x2, .ow ((if acc.contains p.1 then acc else acc++[p.1]).map dr), .sh (dr p.1), .sh (.int p.2),r6,r7], .nx):=by
  have e1:=q9 acc
  have e2:=vc p.1 acc
  have tg:dF (aw p) [x0,x1,x2, .ow (acc.map dr),a,b,r6,r7]=some [x0,x1,x2, .ow (acc.map dr), .sh (dr p.1), .sh (.int p.2),r6,r7]:=rfl
  have cd:cZ (af (Ar true) false (ab 4) (ab 3)) [x0,x1,x2, .ow (acc.map dr), .sh (dr p.1), .sh (.int p.2),r6,r7]=some (!acc.contains p.1,[x0,x1,x2, .ow (acc.map dr), .sh (dr p.1), .sh (.int p.2),r6,r7]):=by
    generalize hds:acc.map dr=ds at e1
    simp only [cZ,af,ab,List.getElem?_cons_succ,List.getElem?_cons_zero,Sl.isBr,Bool.false_and,Bool.false_eq_true,Ar,dt,look,Sl.val,if_true,Aq,if_false,Option.bind_some,e1,Option.map_some,e2]
  rw [tg,Option.bind_some,dG]
  by_cases h:acc.contains p.1=true
  · rw [h] at cd
    rw [if_pos h]
    exact oa cd rfl
  · have h':acc.contains p.1=false:=by simpa using h
    rw [h'] at cd
    rw [if_neg h]
    refine pP cd ?_
    have lm:(acc.map dr).length < 1000000:=by simpa using ha
    rw [List.map_append]
    generalize acc.map dr=ds at lm
    simp only [bR,aG,List.getElem?_cons_succ,List.getElem?_cons_zero,ab,frz,Option.bind_some,lm,List.set_cons_succ,List.set_cons_zero,if_true,Option.map_some,List.map_cons,List.map_nil]
theorem ou (x0 x1 x2 r6 r7:Sl):∀(c:List Pc) (acc:List Nat) (a b:Sl),acc.length+c.length < 1000000→∃a' b',bg dF dG (c.map aw) [x0,x1,x2, .ow (acc.map dr),a,b,r6,r7]=some ([x0,x1,x2, .ow ((ji c acc).map dr),a',b',r6,r7], .nx)
  | [],acc,a,b,_=>⟨a,b,rfl⟩
  | p::c,acc,a,b,h=>by
    have l:(if acc.contains p.1 then acc else acc++[p.1]).length≤acc.length+1:=by split <;> simp
    obtain ⟨a',b',e⟩:=ou x0 x1 x2 r6 r7 c (if acc.contains p.1 then acc else acc++[p.1]) (.sh (dr p.1)) (.sh (.int p.2)) (by simp at h;omega)
    refine ⟨a',b',?_⟩
    rw [List.map_cons,bg,vd x0 x1 x2 a b r6 r7 acc (by simp at h;omega) p]
    exact e
theorem q_:∀D:List Kp,pH (D.map bB)=some D
  | []=>rfl
  | p::D=>by
    show (pH (D.map bB)).map _=_
    rw [q_ D]
    simp
theorem oz (x0 x1 a b r7:Sl) (ls:List Nat) (n:Nat) (F:Few ls n):∀(m lo:Nat) (c6:Sl),lo+m≤n→∃c6',bg eO dH (gl lo m) [x0,x1, .ow ((aF ls lo).map tx), .ow (ls.map dr),a,b,c6,r7]=some ([x0,x1, .ow ((aF ls (lo+m)).map tx), .ow (ls.map dr),a,b,c6',r7], .nx)
  | 0,lo,c6,_=>⟨c6,rfl⟩
  | m+1,lo,c6,h=>by
    obtain ⟨c6',e⟩:=oz x0 x1 a b r7 ls n F m (lo+1) (.sh (.int lo)) (by omega)
    have n5:=F.n5
    have lr:=fD ls lo
    have pw:=F.pow (lo+1) (by omega)
    have mr:=wG (aF ls lo) ls (fun r hr=>by have:=((dm ls lo r).mp hr).1;omega) (by
      rw [lr,←Nat.pow_succ]
      exact Nat.le_trans pw (by decide))
    refine ⟨c6',?_⟩
    have tg:eO (.int lo) [x0,x1, .ow ((aF ls lo).map tx), .ow (ls.map dr),a,b,c6,r7]=some [x0,x1, .ow ((aF ls lo).map tx), .ow (ls.map dr),a,b, .sh (.int lo),r7]:=rfl
    have cl:=fg (c:=cF) (ka (E:=[x0,x1, .ow ((aF ls lo).map tx), .ow (ls.map dr),a,b, .sh (.int lo),r7]) (f:=ab 2) (g:=ab 3) (s1:= .al 2) (s2:= .al 3) rfl rfl) rfl mr
    have st:dH [x0,x1, .ow ((aF ls lo).map tx), .ow (ls.map dr),a,b, .sh (.int lo),r7]=some ([x0,x1, .ow ((aF ls (lo+1)).map tx), .ow (ls.map dr),a,b, .sh (.int lo),r7], .nx):=by
      unfold dH ak
      rw [cl]
      rfl
    rw [eP,bg,tg,Option.bind_some,st]
    rw [show lo+(m+1)=lo+1+m by omega]
    exact e
theorem xl (c:List Pc) (hc:CordOk c) (hl:c.length≤12):∀(L:List (List Nat)) (x:Sl),(∀w∈L,w.length≤40)→cr bn cS aV (L.map tx) [x, .sh (.list (c.map aw))]=some ((L.map fun w=>(w,NH.aB w c)).map bB)
  | [],x,_=>rfl
  | w::L,x,h=>by
    have ih:=xl c hc hl L (.sh (tx w)) fun v hv=>h v (List.mem_cons_of_mem _ hv)
    have e:=mJ w c (h w (List.mem_cons_self ..)) (wy (h w (List.mem_cons_self ..)) (by omega) hc)
    have cl:=fg (c:=bG) (ka (E:=[.sh (tx w), .sh (.list (c.map aw))]) (f:=ab 0) (g:=ab 1) (s1:= .sh (tx w)) (s2:= .sh (.list (c.map aw))) rfl rfl) rfl e
    have tg:bn (tx w) [x, .sh (.list (c.map aw))]=some [.sh (tx w), .sh (.list (c.map aw))]:=rfl
    have el:aV [.sh (tx w), .sh (.list (c.map aw))]=some (.sh (.tuple [tx w, .int (NH.aB w c)]),[.sh (tx w), .sh (.list (c.map aw))]):=by
      unfold aV c_ ar
      show ((((au bG (ae false (ab 0) (ae false (ab 1) aq)) [.sh (tx w), .sh (.list (c.map aw))]).bind fun a=>(frz a.2 a.1).bind fun b=>(aR b.2).map fun c=>(b.1::c.1,c.2)).map fun c=>(tx w::c.1,c.2)).bind _)=_
      rw [cl]
      rfl
    rw [List.map_cons,cr,tg,Option.bind_some]
    show ((aV [.sh (tx w), .sh (.list (c.map aw))]).bind fun c'=>(frz c'.2 c'.1).bind fun e=>(cr bn cS aV (L.map tx) e.2).map fun r=>e.1::r)=_
    rw [el]
    show ((cr bn cS aV (L.map tx) [.sh (tx w), .sh (.list (c.map aw))]).map fun r=>PyData.tuple [tx w, .int (NH.aB w c)]::r)=_
    rw [ih]
    rfl
theorem xm:∀(D:List Kp) (x:Sl),cr bd aX aW (D.map bB) [x]=some ((D.filter fun p=>p.2 != 0).map bB)
  | [],x=>rfl
  | p::D,x=>by
    have ih:=xm D (.sh (bB p))
    have tg:bd (bB p) [x]=some [.sh (bB p)]:=rfl
    have cd:aX [.sh (bB p)]=some (!decide (p.2=0),[.sh (bB p)]):=by
      simp only [aX,cZ,af,ab,bB,List.getElem?_cons_zero,Sl.isBr,Bool.false_and,Bool.false_eq_true,pC,dO,look,Sl.val,df,bI,Option.bind_some,if_false,nq,Option.map_some,kL,dt,b5]
    have el:aW [.sh (bB p)]=some (.sh (bB p),[.sh (bB p)]):=rfl
    rw [List.map_cons,cr,tg,Option.bind_some,cd,Option.bind_some]
    by_cases h:p.2=0
    · have fe:(p::D).filter (fun p=>p.2 != 0)=D.filter fun p=>p.2 != 0:=by rw [List.filter_cons,if_neg (by simp [h])]
      rw [decide_eq_true h,fe]
      show cr bd aX aW (D.map bB) [.sh (bB p)]=_
      exact ih
    · have fe:(p::D).filter (fun p=>p.2 != 0)=p::D.filter fun p=>p.2 != 0:=by rw [List.filter_cons,if_pos (by simp [h])]
      rw [decide_eq_false h,fe]
      show ((aW [.sh (bB p)]).bind fun c'=>(frz c'.2 c'.1).bind fun e=>(cr bd aX aW (D.map bB) e.2).map fun r=>e.1::r)=_
      rw [el]
      show ((cr bd aX aW (D.map bB) [.sh (bB p)]).map fun r=>bB p::r)=_
      rw [ih]
      rfl
theorem yN (c:List Pc) (hc:CordOk c) (hl:c.length≤12) (n:Nat) (F:Few (ji c []) n):b6 [.list (c.map aw), .int n]=some (.ow ((cU (fE (ji c []) c n)).map bB)):=by
  have n5:=F.n5
  obtain ⟨a',b',e1⟩:=ou (.sh (.list (c.map aw))) (.sh (.int n)) (.ow [tx []]) .no .no c [] .no .no (by simp;omega)
  obtain ⟨c6,e2⟩:=oz (.sh (.list (c.map aw))) (.sh (.int n)) a' b' .no (ji c []) n F n 0 .no (by omega)
  rw [Nat.zero_add] at e2
  have lr:=fD (ji c []) n
  have pw:=F.pow n (Nat.le_refl _)
  have k2:=xl c hc hl (aF (ji c []) n) .no fun w hw=>by have:=((dm _ n w).mp hw).1;omega
  have k3:=xm ((aF (ji c []) n).map fun w=>(w,NH.aB w c)) .no
  generalize hls:ji c []=ls at *
  have g:b6 [.list (c.map aw), .int n]=(fF [.sh (.list (c.map aw)), .sh (.int n), .no, .no, .no, .no, .no, .no]).bind fun a=>match a.2 with | .rt r=>dC r | .nx=>some (.sh .none) | _=>none:=rfl
  have s2:ak 2 (cP (ar (pC (.str "")) aR)) [.sh (.list (c.map aw)), .sh (.int n), .no, .no, .no, .no, .no, .no]=some ([.sh (.list (c.map aw)), .sh (.int n), .ow [tx []], .no, .no, .no, .no, .no], .nx):=rfl
  have s3:ak 3 (cP aR) [.sh (.list (c.map aw)), .sh (.int n), .ow [tx []], .no, .no, .no, .no, .no]=some ([.sh (.list (c.map aw)), .sh (.int n), .ow [tx []], .ow (([]:List Nat).map dr), .no, .no, .no, .no], .nx):=rfl
  have it1:dZ (ab 0) [.sh (.list (c.map aw)), .sh (.int n), .ow [tx []], .ow (([]:List Nat).map dr), .no, .no, .no, .no]=some (c.map aw,[.sh (.list (c.map aw)), .sh (.int n), .ow [tx []], .ow (([]:List Nat).map dr), .no, .no, .no, .no]):=rfl
  have it2:eS (ae false (ab 1) aq) [.sh (.list (c.map aw)), .sh (.int n), .ow [tx []], .ow (ls.map dr),a',b', .no, .no]=some (gl ((0:Nat):Int) n,[.sh (.list (c.map aw)), .sh (.int n), .ow [tx []], .ow (ls.map dr),a',b', .no, .no]):=by
    have b1: -1000000≤(n:Int)∧(n:Int)≤1000000:=by omega
    simp only [eS,ae,ab,List.getElem?_cons_succ,List.getElem?_cons_zero,Sl.isBr,Bool.false_and,Bool.false_eq_true,aq,Option.map_some,if_false,Option.bind_some,Int.reduceNeg,aZ,look,Sl.val,b1,and_self,Int.toNat_natCast,if_true,Int.cast_ofNat_Int]
  have fl1:aO (((aF ls n).map fun w=>(w,NH.aB w c)).map bB)=true:=iu _
  have fl2:aO ((fE ls c n).map bB)=true:=iu _
  have z1:(((aF ls n).map fun w=>(w,NH.aB w c)).map bB).length≤1000000:=by simp only [List.length_map,lr];omega
  have z2:(fE ls c n).length≤1024:=by
    refine Nat.le_trans (List.length_filter_le _ _) ?_
    simp only [List.length_map,lr];omega
  have s7:ak 7 (cT [none,some 0] (dZ (ab 2)) bn cS aV) [.sh (.list (c.map aw)), .sh (.int n), .ow ((aF ls n).map tx), .ow (ls.map dr),a',b',c6, .no]=some ([.sh (.list (c.map aw)), .sh (.int n), .sh (.list ((aF ls n).map tx)), .ow (ls.map dr),a',b',c6, .ow (((aF ls n).map fun w=>(w,NH.aB w c)).map bB)], .nx):=by
    have q:cT [none,some 0] (dZ (ab 2)) bn cS aV [.sh (.list (c.map aw)), .sh (.int n), .ow ((aF ls n).map tx), .ow (ls.map dr),a',b',c6, .no]=some (.ow (((aF ls n).map fun w=>(w,NH.aB w c)).map bB),[.sh (.list (c.map aw)), .sh (.int n), .sh (.list ((aF ls n).map tx)), .ow (ls.map dr),a',b',c6, .no]):=by
      unfold cT
      show ((cr bn cS aV ((aF ls n).map tx) [.no, .sh (.list (c.map aw))]).bind fun ds=>if aO ds&&decide (ds.length≤1000000) then some (Sl.ow ds,[.sh (.list (c.map aw)), .sh (.int n), .sh (.list ((aF ls n).map tx)), .ow (ls.map dr),a',b',c6, .no]) else none)=_
      rw [k2,Option.bind_some,fl1,decide_eq_true z1]
      rfl
    unfold ak
    rw [q]
    rfl
  have srt:bP (iq (cT [none] (kT (ab 7)) bd aX aW)) [.sh (.list (c.map aw)), .sh (.int n), .sh (.list ((aF ls n).map tx)), .ow (ls.map dr),a',b',c6, .ow (((aF ls n).map fun w=>(w,NH.aB w c)).map bB)]=some ([.sh (.list (c.map aw)), .sh (.int n), .sh (.list ((aF ls n).map tx)), .ow (ls.map dr),a',b',c6, .ow (((aF ls n).map fun w=>(w,NH.aB w c)).map bB)], .rt (.ow ((cU (fE ls c n)).map bB))):=by
    have q:cT [none] (kT (ab 7)) bd aX aW [.sh (.list (c.map aw)), .sh (.int n), .sh (.list ((aF ls n).map tx)), .ow (ls.map dr),a',b',c6, .ow (((aF ls n).map fun w=>(w,NH.aB w c)).map bB)]=some (.ow ((fE ls c n).map bB),[.sh (.list (c.map aw)), .sh (.int n), .sh (.list ((aF ls n).map tx)), .ow (ls.map dr),a',b',c6, .ow (((aF ls n).map fun w=>(w,NH.aB w c)).map bB)]):=by
      have ik:kT (ab 7) [.sh (.list (c.map aw)), .sh (.int n), .sh (.list ((aF ls n).map tx)), .ow (ls.map dr),a',b',c6, .ow (((aF ls n).map fun w=>(w,NH.aB w c)).map bB)]=some (((aF ls n).map fun w=>(w,NH.aB w c)).map bB,[.sh (.list (c.map aw)), .sh (.int n), .sh (.list ((aF ls n).map tx)), .ow (ls.map dr),a',b',c6, .ow (((aF ls n).map fun w=>(w,NH.aB w c)).map bB)]):=by
        generalize ((aF ls n).map fun w=>(w,NH.aB w c)).map bB=ds at fl1
        simp only [kT,ab,List.getElem?_cons_succ,List.getElem?_cons_zero,look,Sl.val,Option.bind_some]
      unfold cT
      rw [ik,Option.bind_some]
      show ((cr bd aX aW (((aF ls n).map fun w=>(w,NH.aB w c)).map bB) [.no]).bind _)=_
      rw [k3,Option.bind_some]
      show (if aO ((fE ls c n).map bB)&&decide (((fE ls c n).map bB).length≤1000000) then _ else none)=_
      rw [fl2,decide_eq_true (by simp only [List.length_map];omega)]
      rfl
    unfold bP iq
    rw [q]
    show ((match some (PyData.list ((fE ls c n).map bB)) with | some (.list ds)=>(pH ds).bind fun D=>if D.length < 65536 then some (Sl.ow ((cU D).map bB),_) else none | _=>none).bind _)=_
    simp only [q_,Option.bind_some]
    rw [if_pos (by omega)]
    rfl
  rw [g,fF,aY s2,aY s3,aY (hV it1 e1),aY (hV it2 e2),aY s7,srt]
  show dC (.ow ((cU (fE ls c n)).map bB))=_
  simp only [dC,cM,iu,if_true]
def KL (L:List Kp):Prop:=∀x∈L,∀a∈x.1,a < 128
theorem Bc:∀{w:List Nat},(∀a∈w,a < 128)→PyData.canLay0 (.str ⟨w.toArray⟩)=true:=fun {w} h=>by
  simp only [PyData.canLay0,PyData.strOk]
  simp
  intro a ha
  have:=h a ha
  omega
theorem yO {x:Kp} (h:∀a∈x.1,a < 128):vj (.tuple [.str ⟨x.1.toArray⟩, .int x.2]) (.tuple [.str ⟨x.1.toArray⟩, .int x.2])=some true:=by
  have e:vj (.tuple [.str ⟨x.1.toArray⟩, .int x.2]) (.tuple [.str ⟨x.1.toArray⟩, .int x.2])=(if SeqAt.shaped (.tuple [.str ⟨x.1.toArray⟩, .int x.2])&&SeqAt.shaped (.tuple [.str ⟨x.1.toArray⟩, .int x.2]) then some (PyData.eqv (.tuple [.str ⟨x.1.toArray⟩, .int x.2]) (.tuple [.str ⟨x.1.toArray⟩, .int x.2])) else none):=rfl
  have l:=Bc h
  rw [PyData.canLay0] at l
  have sh:SeqAt.shaped (.tuple [.str ⟨x.1.toArray⟩, .int x.2])=true:=by
    unfold SeqAt.shaped
    simp [PyData.canLay0,PyData.canLayAll0,PyData.depth,PyData.depthAll,l]
  rw [e,sh]
  simp [PyData.eqv,PyData.eqvAll]
theorem ve (L:List Kp) (h:KL L) (k:Nat) (hk:k < L.length) (a:Sl):(cG (.int k) [.sh (.list (L.map bB)), .sh (.list (L.map bB)),a]).bind cH=some ([.sh (.list (L.map bB)), .sh (.list (L.map bB)), .sh (.int k)], .nx):=by
  have ix:atI (L.map bB) (k:Int)=some (.tuple [.str ⟨L[k].1.toArray⟩, .int L[k].2]):=by
    rw [cB,List.getElem?_map,List.getElem?_eq_getElem hk];rfl
  have dq:=yO (h L[k] (List.getElem_mem hk))
  simp only [cG,az,List.length_cons,List.length_nil,Nat.zero_add,Nat.reduceAdd,Nat.reduceLT,List.set_cons_succ,List.set_cons_zero,if_true,cH,kL,Option.bind_some,ap,bw,fZ,gh,fJ,jk,af,ab,List.getElem?_cons_zero,Sl.isBr,Bool.false_and,Bool.false_eq_true,dO,look,Sl.val,df,bI,if_false,List.getElem?_cons_succ,ix,Option.map_some,nh,Ty.is,yX,h6,Bool.not_true,cZ,ck,ae,aq,dP,pC,dt,aZ,Int.cast_ofNat_Int,b5,decide_true,nn,bP,bb,nq,dq]
theorem oA (L:List Kp) (h:KL L):∀(n k:Nat) (a:Sl),k+n=L.length→∃a',bg cG cH (gl k n) [.sh (.list (L.map bB)), .sh (.list (L.map bB)),a]=some ([.sh (.list (L.map bB)), .sh (.list (L.map bB)),a'], .nx)
  | 0,k,a,_=>⟨a,rfl⟩
  | n+1,k,a,hn=>by
    obtain ⟨a',e⟩:=oA L h n (k+1) (.sh (.int k)) (by omega)
    refine ⟨a',?_⟩
    rw [eP,bg,ve L h k (by omega) a]
    exact e
theorem vf (L:List Kp) (h:KL L) (hl:L.length≤1000000):aQ [.list (L.map bB), .list (L.map bB)]=some (.sh (.bool true)):=by
  obtain ⟨a',lp⟩:=oA L h L.length 0 .no (by omega)
  have b1: -1000000≤(L.length:Int)∧(L.length:Int)≤1000000:=by omega
  simp only [Int.natCast_zero] at lp
  simp only [aQ,g4,List.length_cons,List.length_nil,Nat.zero_add,Nat.reduceAdd,je,fc,ap,bw,fZ,gh,fJ,jk,ab,cA,List.map_cons,List.map_nil,Nat.reduceSub,List.replicate,List.cons_append,List.nil_append,List.getElem?_cons_zero,look,Sl.val,nh,Ty.is,yX,Option.map_some,Option.bind_some,h6,Bool.not_true,cZ,af,ck,ae,Sl.isBr,Bool.false_and,Bool.false_eq_true,aq,if_false,dP,kL,dt,aZ,List.length_map,List.getElem?_cons_succ,b5,decide_true,bP,pC,bb,eK,eS,Int.reduceNeg,b1,and_self,Int.toNat_natCast,if_true,lp,dC,cM,cJ]
def jr:c9:=(ap (ak 3 (au b6 (ae false (ab 1) (ae false (ab 2) aq))))
  (ap (ak 4 (fk (ab 1)))
  (ap (ak 5 (au bM (ae false (ab 4) (ae false (ab 2) aq))))
  (ap (bw (fZ (gh (fJ (au aQ (ae false (ab 5) (ae false (ab 3) aq))))) (cZ (af kL false (ab 4) (ab 1))))
  (bP (pC (.bool false)))
  bb)
  (ap (bR (aG 5 (c_ (ar (pC (.str "")) (ar (pC (.int 0)) aR)))))
  (bP (au aQ (ae false (au bM (ae false (ab 4) (ae false (ab 2) aq))) (ae false (ab 3) aq)))))))))
theorem Ag:nY=(ap (ak 1 (au bF (ae false (au bX (ae false (ab 0) (ae false (pC (.int 0)) (ae false (pC (.int 63)) (ae false (pC (.int 12)) aq))))) aq)))
  (ap (ak 2 (af bv false (af be false (au av (ae false (ab 0) (ae false (pC (.int 1)) aq))) (pC (.int 3))) (pC (.int 3))))
  (ap (bw (cZ (af iz false (af bv false (au av (ae false (ab 0) (ae false (pC (.int 1)) aq))) (pC (.int 3))) (pC (.int 1))))
  (ap (ak 2 (af bh false (pC (.int 3)) (af bv false (af be false (au av (ae false (ab 0) (ae false (pC (.int 1)) aq))) (pC (.int 3))) (pC (.int 3)))))
  (ak 1 (gJ false (ab 1) e9 (dW (af dO false (cP (ar (pC (.int 8)) (ar (pC (.int 5)) (ar (pC (.int 4)) aR)))) (af cO false (ab 2) (pC (.int 3))))))))
  bb)
  (ap (bw (cZ (af iz false (af bv false (au av (ae false (ab 0) (ae false (pC (.int 1)) aq))) (pC (.int 3))) (pC (.int 2))))
  (ap (ak 2 (af bv false (af be false (au av (ae false (ab 0) (ae false (pC (.int 1)) aq))) (pC (.int 3))) (pC (.int 6))))
  (ak 1 (cT [none,none] (dZ (ab 1)) cI cS bH)))
  bb) jr)))):=rfl
def Bq (s:Sl):Sl:=match s with
  | .ow _=> .al 1
  | s=>s
theorem yP {ls:List Nat} (h:∀a∈ls,a < 128) (c:List Pc) (n:Nat):KL (cU (fE ls c n)):=fun x hx a ha=>by
  have hx':=(List.mergeSort_perm _ oD).mem_iff.mp hx
  obtain ⟨w,hw,rfl⟩:=List.mem_map.mp (List.mem_filter.mp hx').1
  exact h a (((dm ls n w).mp hw).2 a ha)
theorem wH (x0 s1:Sl) (c:List Pc) (h1:Ae s1 c) (hc:CordOk c) (hl:c.length≤12) (n:Nat) (F:Few (ji c []) n) (x3 x4 x5:Sl):∃E,jr [x0,s1, .sh (.int n),x3,x4,x5]=some (E, .rt (.sh (.bool true))):=by
  have e3:=yN c hc hl n F
  have lsm:∀a∈ji c [],a < 128:=fun a ha=>by
    rcases pS c [] a ha with z | z
    · cases z
    · obtain ⟨p,hp,rfl⟩:=List.mem_map.mp z
      exact (hc p hp).1
  have e5:=wE F (pR c [] List.nodup_nil) c hc hl (qZ c []).2
  have z2:(cU (fE (ji c []) c n)).length≤1024:=by
    have e:(cU (fE (ji c []) c n)).length=(fE (ji c []) c n).length:=(List.mergeSort_perm _ oD).length_eq
    rw [e]
    refine Nat.le_trans (List.length_filter_le _ _) ?_
    simp only [List.length_map,fD]
    exact F.pow n (Nat.le_refl _)
  have rt:=vf (cU (fE (ji c []) c n)) (yP lsm c n) (by omega)
  generalize cU (fE (ji c []) c n)=L at e3 e5 rt z2
  have dq:=uD hc.n hc.n
  rw [decide_eq_true rfl] at dq
  have v1:∀y2 y3 y4 y5:Sl,ab 1 [x0,s1,y2,y3,y4,y5]=some (Bq s1,[x0,s1,y2,y3,y4,y5]):=fun _ _ _ _=>by rcases h1 with rfl | rfl <;> rfl
  have k1:∀y2 y3 y4 y5:Sl,look [x0,s1,y2,y3,y4,y5] (Bq s1)=some (.list (c.map aw)):=fun _ _ _ _=>by rcases h1 with rfl | rfl <;> rfl
  have c3:=fg (c:=b6) (ka (E:=[x0,s1, .sh (.int n),x3,x4,x5]) (v1 _ _ _ _) (g:=ab 2) (s2:= .sh (.int n)) rfl) (ds:=[.list (c.map aw), .int n]) (by rcases h1 with rfl | rfl <;> rfl) e3
  have s3:ak 3 (au b6 (ae false (ab 1) (ae false (ab 2) aq))) [x0,s1, .sh (.int n),x3,x4,x5]=some ([x0,s1, .sh (.int n), .ow (L.map bB),x4,x5], .nx):=by
    unfold ak
    rw [c3]
    rfl
  have lc:(c.map aw).length≤1000000:=by simp only [List.length_map];omega
  have s4:ak 4 (fk (ab 1)) [x0,s1, .sh (.int n), .ow (L.map bB),x4,x5]=some ([x0,s1, .sh (.int n), .ow (L.map bB), .ow (c.map aw),x5], .nx):=by
    have fp:aO (c.map aw)=true:=cC c
    rcases h1 with rfl | rfl
    · generalize c.map aw=ds at lc fp
      simp only [ak,fk,ab,List.getElem?_cons_succ,List.getElem?_cons_zero,look,Sl.val,df,bI,Option.bind_some,Bool.not_false,fp,Bool.or_true,if_true,PL.settle,frz,frzAll,List.length_cons,List.length_nil,Nat.zero_add,Nat.reduceAdd,Nat.reduceLT,List.set_cons_succ,List.set_cons_zero]
    · generalize c.map aw=ds at lc fp
      simp only [ak,fk,ab,List.getElem?_cons_succ,List.getElem?_cons_zero,look,Sl.val,df,bI,Option.bind_some,Option.any_some,Bool.not_false,fp,Bool.or_true,if_true,PL.settle,frz,frzAll,List.length_cons,List.length_nil,Nat.zero_add,Nat.reduceAdd,Nat.reduceLT,List.set_cons_succ,List.set_cons_zero]
  have c5:∀y:Sl,au bM (ae false (ab 4) (ae false (ab 2) aq)) [x0,s1, .sh (.int n), .ow (L.map bB), .ow (c.map aw),y]=some (.ow (L.map bB),[x0,s1, .sh (.int n), .ow (L.map bB), .ow (c.map aw),y]):=fun y=>
    fg (ka (f:=ab 4) (g:=ab 2) (s1:= .al 4) (s2:= .sh (.int n)) rfl rfl) rfl e5
  have s5:ak 5 (au bM (ae false (ab 4) (ae false (ab 2) aq))) [x0,s1, .sh (.int n), .ow (L.map bB), .ow (c.map aw),x5]=some ([x0,s1, .sh (.int n), .ow (L.map bB), .ow (c.map aw), .ow (L.map bB)], .nx):=by
    unfold ak
    rw [c5]
    rfl
  have c6:=fg (c:=aQ) (ka (E:=[x0,s1, .sh (.int n), .ow (L.map bB), .ow (c.map aw), .ow (L.map bB)]) (f:=ab 5) (g:=ab 3) (s1:= .al 5) (s2:= .al 3) rfl rfl) rfl rt
  have t6:fZ (gh (fJ (au aQ (ae false (ab 5) (ae false (ab 3) aq))))) (cZ (af kL false (ab 4) (ab 1))) [x0,s1, .sh (.int n), .ow (L.map bB), .ow (c.map aw), .ow (L.map bB)]=some (false,[x0,s1, .sh (.int n), .ow (L.map bB), .ow (c.map aw), .ow (L.map bB)]):=by
    refine Af (E1:=[x0,s1, .sh (.int n), .ow (L.map bB), .ow (c.map aw), .ow (L.map bB)]) ?_ ?_
    · unfold gh fJ
      rw [c6]
      rfl
    · unfold cZ
      rw [iW (f:=ab 4) (s1:= .al 4) (E1:=[x0,s1, .sh (.int n), .ow (L.map bB), .ow (c.map aw), .ow (L.map bB)]) rfl (v1 _ _ _ _)]
      have k1':=k1 (.sh (.int n)) (.ow (L.map bB)) (.ow (c.map aw)) (.ow (L.map bB))
      have k4:look [x0,s1, .sh (.int n), .ow (L.map bB), .ow (c.map aw), .ow (L.map bB)] (.al 4)=some (.list (c.map aw)):=rfl
      simp only [kL,dt,k4,k1',Option.bind_some,dq,Option.map_some,Bool.not_true]
  have lk:(L.map bB).length < 1000000:=by simp only [List.length_map];omega
  have s7:bR (aG 5 (c_ (ar (pC (.str "")) (ar (pC (.int 0)) aR)))) [x0,s1, .sh (.int n), .ow (L.map bB), .ow (c.map aw), .ow (L.map bB)]=some ([x0,s1, .sh (.int n), .ow (L.map bB), .ow (c.map aw), .ow (L.map bB++[.tuple [.str "", .int 0]])], .nx):=by
    generalize L.map bB=ds at lk
    generalize c.map aw=es
    simp only [bR,aG,List.getElem?_cons_succ,List.getElem?_cons_zero,c_,ar,pC,frz,aR,Option.map_some,Option.bind_some,List.length_cons,List.length_nil,Nat.zero_add,Nat.reduceAdd,Nat.reduceLeDiff,if_true,lk,List.set_cons_succ,List.set_cons_zero]
  have c8:=fg (c:=aQ) (ka (E:=[x0,s1, .sh (.int n), .ow (L.map bB), .ow (c.map aw), .ow (L.map bB++[.tuple [.str "", .int 0]])]) (c5 _) (g:=ab 3) (s2:= .al 3) rfl) rfl rt
  refine ⟨[x0,s1, .sh (.int n), .ow (L.map bB), .ow (c.map aw), .ow (L.map bB++[.tuple [.str "", .int 0]])],?_⟩
  rw [jr,aY s3,aY s4,aY s5,aY (oa t6 rfl),aY s7]
  unfold bP
  rw [c8]
  rfl
theorem pT {ls:List Nat} {n b:Nat} (h5:n≤5) (hb:ls.length≤b) (h1:1≤b) (hp:b ^ n≤1024):Few ls n:=
  ⟨h5,fun j hj=>Nat.le_trans (Nat.pow_le_pow_left hb j) (Nat.le_trans (Nat.pow_le_pow_right h1 hj) hp)⟩
def sQ (p:Pc):Pc:=(if 98 < p.1 then 110 else 109,p.2)
theorem xn:∀(c:List Pc) (x y:Sl),cr cI cS bH (c.map aw) [x,y]=some ((c.map sQ).map aw)
  | [],x,y=>rfl
  | p::c,x,y=>by
    have ih:=xn c (.sh (.str ⟨#[p.1]⟩)) (.sh (.int p.2))
    have tg:cI (aw p) [x,y]=some [.sh (.str ⟨#[p.1]⟩), .sh (.int p.2)]:=rfl
    have gt:decide ((Str.ofString "b").cps.toList < [p.1])=decide (98 < p.1):=by
      rw [show (Str.ofString "b").cps.toList=[98] by decide+kernel]
      refine decide_eq_decide.mpr ?_
      rw [List.cons_lt_cons_iff]
      simp
    have el:bH [.sh (.str ⟨#[p.1]⟩), .sh (.int p.2)]=some (.sh (aw (sQ p)),[.sh (.str ⟨#[p.1]⟩), .sh (.int p.2)]):=by
      by_cases h:98 < p.1
      · rw [decide_eq_true h] at gt
        have m1:atI (Str.ofString "mn").cps.toList 1=some 110:=by decide+kernel
        have l2:(Str.ofString "mn").length≤1000000:=by decide+kernel
        simp only [bH,c_,ar,af,pC,Sl.isBr,Bool.false_and,Bool.false_eq_true,ck,ae,ab,dt,look,Sl.val,dR,Cm.i,Cm.s,Option.bind_some,if_false,aq,Option.map_some,uv,dO,df,bI,List.getElem?_cons_zero,gt,aZ,if_true,l2,m1,frz,aR,List.getElem?_cons_succ,List.length_cons,List.length_nil,Nat.zero_add,Nat.reduceAdd,Nat.reduceLeDiff,aw,sQ,h]
      · rw [decide_eq_false h] at gt
        have m0:atI (Str.ofString "mn").cps.toList 0=some 109:=by decide+kernel
        have l2:(Str.ofString "mn").length≤1000000:=by decide+kernel
        simp only [bH,c_,ar,af,pC,Sl.isBr,Bool.false_and,Bool.false_eq_true,ck,ae,ab,dt,look,Sl.val,dR,Cm.i,Cm.s,Option.bind_some,if_false,aq,Option.map_some,uv,dO,df,bI,List.getElem?_cons_zero,gt,aZ,l2,if_true,m0,frz,aR,List.getElem?_cons_succ,List.length_cons,List.length_nil,Nat.zero_add,Nat.reduceAdd,Nat.reduceLeDiff,aw,sQ,h]
    rw [List.map_cons,cr,tg,Option.bind_some]
    show ((bH [.sh (.str ⟨#[p.1]⟩), .sh (.int p.2)]).bind fun c'=>(frz c'.2 c'.1).bind fun e=>(cr cI cS bH (c.map aw) e.2).map fun r=>e.1::r)=_
    rw [el]
    show ((cr cI cS bH (c.map aw) [.sh (.str ⟨#[p.1]⟩), .sh (.int p.2)]).map fun r=>aw (sQ p)::r)=_
    rw [ih]
    rfl
theorem Ah {c:List Pc} (h:CordOk c):CordOk (c.map sQ):=fun p hp=>by
  obtain ⟨q,hq,rfl⟩:=List.mem_map.mp hp
  refine ⟨?_,(h q hq).2⟩
  show (if 98 < q.1 then 110 else 109) < 128
  split <;> decide
theorem yQ (c:List Pc):(ji (c.map sQ) []).length≤2:=by
  have nd:=pR (c.map sQ) [] List.nodup_nil
  refine List.Nodup.length_le_of_subset (l₂:=[109,110]) nd fun a ha=>?_
  rcases pS (c.map sQ) [] a ha with z | z
  · cases z
  · rw [List.map_map] at z
    obtain ⟨q,hq,rfl⟩:=List.mem_map.mp z
    show (if 98 < q.1 then 110 else 109)∈[109,110]
    split <;> simp
theorem wI {c:List Pc} (h:CordOk c) (k:Nat):CordOk (c.take k):=fun p hp=>h p (List.mem_of_mem_take hp)
theorem yR (x0 s1:Sl) (c:List Pc) (h1:Ae s1 c) (k:Int) (b:Int) (hb:atI [PyData.int 8, .int 5, .int 4] (3+k - 3)=some (.int b)) (h0:0≤b) (x3 x4 x5:Sl):ak 1 (gJ false (ab 1) e9 (dW (af dO false (cP (ar (pC (.int 8)) (ar (pC (.int 5)) (ar (pC (.int 4)) aR)))) (af cO false (ab 2) (pC (.int 3)))))) [x0,s1, .sh (.int (3+k)),x3,x4,x5]=some ([x0, .ow ((c.take b.toNat).map aw), .sh (.int (3+k)),x3,x4,x5], .nx):=by
  have ct:oV (c.map aw) none (some b)=(c.take b.toNat).map aw:=by rw [gm,rW c h0]
  have fl:aO ((c.take b.toNat).map aw)=true:=cC _
  rcases h1 with rfl | rfl
  · generalize c.map aw=ds at ct
    generalize (c.take b.toNat).map aw=es at ct fl
    simp only [ak,gJ,ab,List.getElem?_cons_succ,List.getElem?_cons_zero,Sl.isBr,Bool.false_and,Bool.false_eq_true,e9,dW,af,cP,ar,pC,frz,aR,Option.map_some,Option.bind_some,List.length_cons,List.length_nil,Nat.zero_add,Nat.reduceAdd,Nat.reduceLeDiff,if_true,cO,dt,look,Sl.val,gP,if_false,dO,df,bI,hb,Bool.not_false,Bool.true_or,ct,PL.settle,frzAll,Nat.reduceLT,List.set_cons_succ,List.set_cons_zero]
  · generalize c.map aw=ds at ct
    generalize (c.take b.toNat).map aw=es at ct fl
    simp only [ak,gJ,ab,List.getElem?_cons_succ,List.getElem?_cons_zero,Sl.isBr,Bool.false_and,Bool.false_eq_true,e9,dW,af,cP,ar,pC,frz,aR,Option.map_some,Option.bind_some,List.length_cons,List.length_nil,Nat.zero_add,Nat.reduceAdd,Nat.reduceLeDiff,if_true,cO,dt,look,Sl.val,gP,if_false,dO,df,bI,hb,Option.any_some,Bool.not_false,ct,fl,Bool.or_true,PL.settle,frzAll,Nat.reduceLT,List.set_cons_succ,List.set_cons_zero]
theorem yS (ns:List Int) (hl:ns.length≤63):g_ [.list (ns.map .int)]=some (.sh (.bool true)):=by
  obtain ⟨c0,e0,l0,n0⟩:=n8 ns 0 63 12 (by decide) (by decide) (by decide) hl
  obtain ⟨c,r,e1,hr,l1,n1⟩:=n_ c0 (by omega) n0
  have ea:=lh ns 1
  rw [show ((1:Nat):Int)=1 from rfl] at ea
  have d3:eQ 3=true:=by decide
  have d6:eQ 6=true:=by decide
  have hc12:c.length≤12:=by omega
  have s1:∃s,Ae s c∧ak 1 (au bF (ae false (au bX (ae false (ab 0) (ae false (pC (.int 0)) (ae false (pC (.int 63)) (ae false (pC (.int 12)) aq))))) aq)) [.sh (.list (ns.map .int)), .no, .no, .no, .no, .no]=some ([.sh (.list (ns.map .int)),s, .no, .no, .no, .no], .nx):=by
    rcases hr with rfl | rfl
    · exact ⟨_, .inl rfl,by simp only [ak,au,ae,ab,List.getElem?_cons_zero,Sl.isBr,Bool.false_and,Bool.false_eq_true,pC,aq,Option.map_some,if_false,Option.bind_some,aZ,look,Sl.val,e0,e1,PL.settle,frz,frzAll,cJ,List.map_cons,qm,List.map_nil,List.length_cons,List.length_nil,Nat.zero_add,Nat.reduceAdd,Nat.reduceLT,List.set_cons_succ,List.set_cons_zero,if_true]⟩
    · exact ⟨_, .inr rfl,by simp only [ak,au,ae,ab,List.getElem?_cons_zero,Sl.isBr,Bool.false_and,Bool.false_eq_true,pC,aq,Option.map_some,if_false,Option.bind_some,aZ,look,Sl.val,e0,e1,PL.settle,frz,frzAll,List.length_cons,List.length_nil,Nat.zero_add,Nat.reduceAdd,Nat.reduceLT,List.set_cons_succ,List.set_cons_zero,if_true]⟩
  obtain ⟨s,hs,s1⟩:=s1
  have g:g_ [.list (ns.map .int)]=(nY [.sh (.list (ns.map .int)), .no, .no, .no, .no, .no]).bind fun a=>match a.2 with | .rt r=>dC r | .nx=>some (.sh .none) | _=>none:=rfl
  have at1:∀y1 y2 y3 y4 y5:Sl,au av (ae false (ab 0) (ae false (pC (.int 1)) aq)) [.sh (.list (ns.map .int)),y1,y2,y3,y4,y5]=some (.sh (.int (ns.getD 1 0)),[.sh (.list (ns.map .int)),y1,y2,y3,y4,y5]):=fun _ _ _ _ _=>fg (ka (f:=ab 0) (g:=pC (.int 1)) (s1:= .sh (.list (ns.map .int))) (s2:= .sh (.int 1)) rfl rfl) rfl ea
  generalize ns.getD 1 0=z at at1
  have m0:=Int.emod_nonneg z (show (3:Int)≠0 by decide)
  have m1:=Int.emod_lt_of_pos z (show (0:Int) < 3 by decide)
  have q0:=Int.emod_nonneg (z / 3) (show (3:Int)≠0 by decide)
  have q1:=Int.emod_lt_of_pos (z / 3) (show (0:Int) < 3 by decide)
  have p0:=Int.emod_nonneg (z / 3) (show (6:Int)≠0 by decide)
  have p1:=Int.emod_lt_of_pos (z / 3) (show (0:Int) < 6 by decide)
  have mod3:∀y1 y2 y3 y4 y5:Sl,af bv false (au av (ae false (ab 0) (ae false (pC (.int 1)) aq))) (pC (.int 3)) [.sh (.list (ns.map .int)),y1,y2,y3,y4,y5]=some (.sh (.int (z % 3)),[.sh (.list (ns.map .int)),y1,y2,y3,y4,y5]):=fun y1 y2 y3 y4 y5=>by
    rw [iW (at1 y1 y2 y3 y4 y5) (g:=pC (.int 3)) (s2:= .sh (.int 3)) rfl]
    simp only [bv,dt,look,Sl.val,gP,Option.bind_some,Int.reduceLT,decide_true,if_true,Option.map_some]
  have div3:∀y1 y2 y3 y4 y5:Sl,af be false (au av (ae false (ab 0) (ae false (pC (.int 1)) aq))) (pC (.int 3)) [.sh (.list (ns.map .int)),y1,y2,y3,y4,y5]=some (.sh (.int (z / 3)),[.sh (.list (ns.map .int)),y1,y2,y3,y4,y5]):=fun y1 y2 y3 y4 y5=>by
    rw [iW (at1 y1 y2 y3 y4 y5) (g:=pC (.int 3)) (s2:= .sh (.int 3)) rfl]
    simp only [be,dt,look,Sl.val,gP,Option.bind_some,d3,if_true,Option.map_some]
  have dm3:∀y1 y2 y3 y4 y5:Sl,af bv false (af be false (au av (ae false (ab 0) (ae false (pC (.int 1)) aq))) (pC (.int 3))) (pC (.int 3)) [.sh (.list (ns.map .int)),y1,y2,y3,y4,y5]=some (.sh (.int (z / 3 % 3)),[.sh (.list (ns.map .int)),y1,y2,y3,y4,y5]):=fun y1 y2 y3 y4 y5=>by
    rw [iW (div3 y1 y2 y3 y4 y5) (g:=pC (.int 3)) (s2:= .sh (.int 3)) rfl]
    simp only [bv,dt,look,Sl.val,gP,Option.bind_some,Int.reduceLT,decide_true,if_true,Option.map_some]
  have dm6:∀y1 y2 y3 y4 y5:Sl,af bv false (af be false (au av (ae false (ab 0) (ae false (pC (.int 1)) aq))) (pC (.int 3))) (pC (.int 6)) [.sh (.list (ns.map .int)),y1,y2,y3,y4,y5]=some (.sh (.int (z / 3 % 6)),[.sh (.list (ns.map .int)),y1,y2,y3,y4,y5]):=fun y1 y2 y3 y4 y5=>by
    rw [iW (div3 y1 y2 y3 y4 y5) (g:=pC (.int 6)) (s2:= .sh (.int 6)) rfl]
    simp only [bv,dt,look,Sl.val,gP,Option.bind_some,Int.reduceLT,decide_true,if_true,Option.map_some]
  have isk:∀(k:Int) (y1 y2 y3 y4 y5:Sl),cZ (af iz false (af bv false (au av (ae false (ab 0) (ae false (pC (.int 1)) aq))) (pC (.int 3))) (pC (.int k))) [.sh (.list (ns.map .int)),y1,y2,y3,y4,y5]=some (decide (z % 3=k),[.sh (.list (ns.map .int)),y1,y2,y3,y4,y5]):=fun k y1 y2 y3 y4 y5=>by
    unfold cZ
    rw [iW (mod3 y1 y2 y3 y4 y5) (g:=pC (.int k)) (s2:= .sh (.int k)) rfl]
    simp only [iz,dt,look,Sl.val,Option.bind_some,b5,Option.map_some]
  have s2:=mI (dm3 s .no .no .no .no) (i:=2) (by show 2 < 6;decide)
  rw [g,Ag,aY s1,aY s2]
  show (ap _ _ [.sh (.list (ns.map .int)),s, .sh (.int (z / 3 % 3)), .no, .no, .no]).bind _=_
  have end_:∀(s':Sl) (c':List Pc) (n:Int),Ae s' c'→CordOk c'→c'.length≤12→0≤n→Few (ji c' []) n.toNat→((jr [.sh (.list (ns.map .int)),s', .sh (.int n), .no, .no, .no]).bind fun a=>match a.2 with | .rt r=>dC r | .nx=>some (.sh .none) | _=>none)=some (.sh (.bool true)):=fun s' c' n h1 h2 h3 h0 F=>by
    obtain ⟨E,e⟩:=wH (.sh (.list (ns.map .int))) s' c' h1 h2 h3 n.toNat F .no .no .no
    rw [Int.toNat_of_nonneg h0] at e
    rw [e]
    rfl
  by_cases h1:z % 3=1
  · have i1:=isk 1 s (.sh (.int (z / 3 % 3))) .no .no .no
    rw [decide_eq_true h1] at i1
    have i2:=fun y1 y2=>isk 2 y1 y2 .no .no .no
    rw [decide_eq_false (by omega)] at i2
    have a2:=mI (u7 (g:=pC (.int 3)) (x:=3) rfl (dm3 s (.sh (.int (z / 3 % 3))) .no .no .no)) (i:=2) (by show 2 < 6;decide)
    have b:∃b:Int,atI [PyData.int 8, .int 5, .int 4] (3+z / 3 % 3 - 3)=some (.int b)∧0≤b∧b ^ (3+z / 3 % 3).toNat≤1024∧1≤b∧b≤8:=by
      have k:z / 3 % 3=0∨z / 3 % 3=1∨z / 3 % 3=2:=by omega
      rcases k with k | k | k
      · exact ⟨8,by rw [k];rfl,by decide,by rw [k];decide,by decide,by decide⟩
      · exact ⟨5,by rw [k];rfl,by decide,by rw [k];decide,by decide,by decide⟩
      · exact ⟨4,by rw [k];rfl,by decide,by rw [k];decide,by decide,by decide⟩
    obtain ⟨b,hb,b0,bp,b1,b8⟩:=b
    have ct:=yR (.sh (.list (ns.map .int))) s c hs (z / 3 % 3) b hb b0 .no .no .no
    have f1:bw (cZ (af iz false (af bv false (au av (ae false (ab 0) (ae false (pC (.int 1)) aq))) (pC (.int 3))) (pC (.int 1)))) (ap (ak 2 (af bh false (pC (.int 3)) (af bv false (af be false (au av (ae false (ab 0) (ae false (pC (.int 1)) aq))) (pC (.int 3))) (pC (.int 3))))) (ak 1 (gJ false (ab 1) e9 (dW (af dO false (cP (ar (pC (.int 8)) (ar (pC (.int 5)) (ar (pC (.int 4)) aR)))) (af cO false (ab 2) (pC (.int 3)))))))) bb [.sh (.list (ns.map .int)),s, .sh (.int (z / 3 % 3)), .no, .no, .no]=some ([.sh (.list (ns.map .int)), .ow ((c.take b.toNat).map aw), .sh (.int (3+z / 3 % 3)), .no, .no, .no], .nx):=pP i1 (by rw [aY a2];exact ct)
    rw [aY f1,aY (oa (i2 _ _) rfl)]
    have lt:(c.take b.toNat).length≤b.toNat:=by simp;omega
    have dl:=mL (c.take b.toNat) []
    refine end_ _ (c.take b.toNat) _ (.inr rfl) (wI n1 _) (by omega) (by omega) (pT (b:=b.toNat) (by omega) (by simp only [List.length_nil] at dl;omega) (by omega) ?_)
    have e:((b.toNat ^ (3+z / 3 % 3).toNat:Nat):Int)=b ^ (3+z / 3 % 3).toNat:=by rw [Int.natCast_pow,Int.toNat_of_nonneg b0]
    omega
  · have i1:=isk 1 s (.sh (.int (z / 3 % 3))) .no .no .no
    rw [decide_eq_false h1] at i1
    rw [aY (oa i1 rfl)]
    by_cases h2:z % 3=2
    · have i2:=isk 2 s (.sh (.int (z / 3 % 3))) .no .no .no
      rw [decide_eq_true h2] at i2
      have a2:=mI (dm6 s (.sh (.int (z / 3 % 3))) .no .no .no) (i:=2) (by show 2 < 6;decide)
      have cp:∃s',Ae s' (c.map sQ)∧ak 1 (cT [none,none] (dZ (ab 1)) cI cS bH) [.sh (.list (ns.map .int)),s, .sh (.int (z / 3 % 6)), .no, .no, .no]=some ([.sh (.list (ns.map .int)),s', .sh (.int (z / 3 % 6)), .no, .no, .no], .nx):=by
        refine ⟨_, .inr rfl,?_⟩
        have k:=xn c .no .no
        have it:∀y:Sl,(y=s)→dZ (ab 1) [.sh (.list (ns.map .int)),y, .sh (.int (z / 3 % 6)), .no, .no, .no]=some (c.map aw,[.sh (.list (ns.map .int)), .sh (.list (c.map aw)), .sh (.int (z / 3 % 6)), .no, .no, .no]):=fun y hy=>by
          subst hy
          rcases hs with rfl | rfl <;> rfl
        have q:cT [none,none] (dZ (ab 1)) cI cS bH [.sh (.list (ns.map .int)),s, .sh (.int (z / 3 % 6)), .no, .no, .no]=some (.ow ((c.map sQ).map aw),[.sh (.list (ns.map .int)), .sh (.list (c.map aw)), .sh (.int (z / 3 % 6)), .no, .no, .no]):=by
          unfold cT
          rw [it s rfl,Option.bind_some]
          show ((cr cI cS bH (c.map aw) [.no, .no]).bind _)=_
          rw [k,Option.bind_some,cC,decide_eq_true (by simp only [List.length_map];omega)]
          rfl
        unfold ak
        rw [q]
        rfl
      obtain ⟨s',hs',cp⟩:=cp
      have f2:bw (cZ (af iz false (af bv false (au av (ae false (ab 0) (ae false (pC (.int 1)) aq))) (pC (.int 3))) (pC (.int 2)))) (ap (ak 2 (af bv false (af be false (au av (ae false (ab 0) (ae false (pC (.int 1)) aq))) (pC (.int 3))) (pC (.int 6)))) (ak 1 (cT [none,none] (dZ (ab 1)) cI cS bH))) bb [.sh (.list (ns.map .int)),s, .sh (.int (z / 3 % 3)), .no, .no, .no]=some ([.sh (.list (ns.map .int)),s', .sh (.int (z / 3 % 6)), .no, .no, .no], .nx):=pP i2 (by rw [aY a2];exact cp)
      rw [aY f2]
      refine end_ s' (c.map sQ) _ hs' (Ah n1) (by simp only [List.length_map];omega) p0 (pT (b:=2) (by omega) (yQ c) (by decide) ?_)
      exact Nat.le_trans (Nat.pow_le_pow_right (by decide) (show (z / 3 % 6).toNat≤5 by omega)) (by decide)
    · have i2:=isk 2 s (.sh (.int (z / 3 % 3))) .no .no .no
      rw [decide_eq_false h2] at i2
      rw [aY (oa i2 rfl)]
      have dl:=mL c []
      refine end_ s c _ hs n1 hc12 q0 (pT (b:=12) (by omega) (by simp only [List.length_nil] at dl;omega) (by decide) ?_)
      exact Nat.le_trans (Nat.pow_le_pow_right (by decide) (show (z / 3 % 3).toNat≤2 by omega)) (by decide)
end Nhk16
namespace Nhk16
open PySem L2 Nh PL
open PySem.W (nsIn codeIn keepIn fnOf)
theorem wJ {fd:FuncData} {xs:List Str} (h:∀a0,bindArgs fd ⟨[a0],[]⟩=pure (xs.zip [a0])):∀us:List Value,us.length=1→bindArgs fd ⟨us,[]⟩=pure (xs.zip us)
  | [a0],_=>h a0
theorem mM {fd:FuncData} {xs:List Str} (h:∀a0 a1,bindArgs fd ⟨[a0,a1],[]⟩=pure (xs.zip [a0,a1])):∀us:List Value,us.length=2→bindArgs fd ⟨us,[]⟩=pure (xs.zip us)
  | [a0,a1],_=>h a0 a1
theorem Bd {fd:FuncData} {xs:List Str} (h:∀a0 a1 a2,bindArgs fd ⟨[a0,a1,a2],[]⟩=pure (xs.zip [a0,a1,a2])):∀us:List Value,us.length=3→bindArgs fd ⟨us,[]⟩=pure (xs.zip us)
  | [a0,a1,a2],_=>h a0 a1 a2
theorem Ai {fd:FuncData} {xs:List Str} (h:∀a0 a1 a2 a3,bindArgs fd ⟨[a0,a1,a2,a3],[]⟩=pure (xs.zip [a0,a1,a2,a3])):∀us:List Value,us.length=4→bindArgs fd ⟨us,[]⟩=pure (xs.zip us)
  | [a0,a1,a2,a3],_=>h a0 a1 a2 a3
abbrev HD (K:PySem.W.Frag) (n:Str) (st:Stmt):Prop:=∃(f:Addr) (oc:Value) (od an:Option Addr) (sl:Array (Option Value)) (kV dc pm cd ct:Value),nsIn K mainGlobals n=some (some (.ref f))∧K.lookup f=some ⟨oc,od, .func (fnOf n n (dU st) (cn st) (aj st) .none kV dc pm an cd ct),sl⟩∧codeIn K cd n=true∧keepIn K (.ref f)=true
theorem Aj {K:PySem.W.Frag} {n:Str} {st:Stmt} {f:Addr} {oc:Value} {od an:Option Addr} {sl:Array (Option Value)} {kV dc pm cd ct:Value} (a:nsIn K mainGlobals n=some (some (.ref f))) (l:K.lookup f=some ⟨oc,od, .func (fnOf n n (dU st) (cn st) (aj st) .none kV dc pm an cd ct),sl⟩) (c:codeIn K cd n=true) (k:keepIn K (.ref f)=true):HD K n st:=⟨f,oc,od,an,sl,kV,dc,pm,cd,ct,a,l,c,k⟩
theorem eI {K:PySem.W.Frag} {h:Heap} {mg:Str→Option Value} {x:Str} {st:Stmt} {ps:List Str} (d:HD K x st) (X:K.In h) (G:h.Ns mainGlobals mg) (b:∀(kV doc pm:Value) (an:Option Addr) (cdv ct:Value) (us:List Value),us.length=ps.length→bindArgs (fnOf x x (dU st) (cn st) (aj st) .none kV doc pm an cdv ct) ⟨us,[]⟩=pure (ps.zip us)):Def K mg x st ps:=by
  obtain ⟨f,oc,od,an,sl,kV,dc,pm,cd,ct,a,l,c,k⟩:=d
  exact xX X G a l c k b
theorem yT {l:PySem.W.OpenLaw} {w:World} {K:PySem.W.Frag} {h:Heap} {mg:Str→Option Value} {fa:Addr} (X:K.In h) (G:h.Ns mainGlobals mg) (hfa:mg "law"=some (.ref fa)) (B:Bn mg)
    (d1:HD K "short_form" fS)
    (d2:HD K "piece_numbers" eF)
    (d3:HD K "add_longer_rows" dI)
    (d4:HD K "add_piece_to_rows" cQ)
    (d5:HD K "rows_in" iT)
    (d6:HD K "_law_at" j9)
    (d7:HD K "_law_mix" iU)
    (d8:HD K "_law_contrary" eY)
    (d9:HD K "_law_pieces" fT)
    (d10:HD K "_law_cord" hJ)
    (d11:HD K "_law_tame" hO)
    (d12:HD K "_law_chosen" fU)
    (d13:HD K "_law_times" gu)
    (d14:HD K "_law_more" hU)
    (d15:HD K "_law_due" iV)
    (d16:HD K "_law_right" gv)
    (d17:HD K "law" j_):
    ∃fd:FuncData,(∀(s:Shared) (v:Value),BindsTo s fd ⟨[v],[]⟩ [("_law_script",v)])∧∀base:Heap,K.In base→base.Ns mainGlobals mg→FnOk l.prog w K mg base sP 6 fa fd ["_law_script"] (fG K g_):=by
  obtain ⟨f0,oc0,od0,an0,sl0,kV0,dc0,pm0,cd0,ct0,a0,l0,c0,k0⟩:=d17
  have e:=hfa.symm.trans (PySem.W.mg_of X G a0)
  cases e
  have F0:=oR (st:=j_) l0 c0 k0
  refine ⟨fnOf "law" "law" (dU j_) (cn j_) (aj j_) .none kV0 dc0 pm0 an0 cd0 ct0,fun s v=> .of_eq rfl,fun base _ _=>?_⟩
  have D_short_form:=kf (P:=l.prog) (w:=w) (base:=base) (eI d1 X G fun _ _ _ _ _ _=>wJ fun _=>rfl) B
  have D_piece_numbers:=iS (P:=l.prog) (w:=w) (base:=base) (eI d2 X G fun _ _ _ _ _ _=>mM fun _ _=>rfl) B
  have D_add_longer_rows:=hE (P:=l.prog) (w:=w) (base:=base) (eI d3 X G fun _ _ _ _ _ _=>Ai fun _ _ _ _=>rfl) B
  have D_add_piece_to_rows:=gr (P:=l.prog) (w:=w) (base:=base) (eI d4 X G fun _ _ _ _ _ _=>Bd fun _ _ _=>rfl) B D_piece_numbers D_add_longer_rows
  have D_rows_in:=pL (P:=l.prog) (w:=w) (base:=base) (eI d5 X G fun _ _ _ _ _ _=>mM fun _ _=>rfl) B D_short_form D_add_piece_to_rows
  have D_law_at:=sE (P:=l.prog) (w:=w) (base:=base) (eI d6 X G fun _ _ _ _ _ _=>mM fun _ _=>rfl) B
  have D_law_mix:=pM (P:=l.prog) (w:=w) (base:=base) (eI d7 X G fun _ _ _ _ _ _=>mM fun _ _=>rfl) B
  have D_law_contrary:=jh (P:=l.prog) (w:=w) (base:=base) (eI d8 X G fun _ _ _ _ _ _=>wJ fun _=>rfl) B
  have D_law_pieces:=kg (P:=l.prog) (w:=w) (base:=base) (eI d9 X G fun _ _ _ _ _ _=>wJ fun _=>rfl) B D_law_mix
  have D_law_cord:=nZ (P:=l.prog) (w:=w) (base:=base) (eI d10 X G fun _ _ _ _ _ _=>Ai fun _ _ _ _=>rfl) B D_law_at D_law_contrary D_law_pieces
  have D_law_tame:=n4 (P:=l.prog) (w:=w) (base:=base) (eI d11 X G fun _ _ _ _ _ _=>wJ fun _=>rfl) B
  have D_law_chosen:=kh (P:=l.prog) (w:=w) (base:=base) (eI d12 X G fun _ _ _ _ _ _=>mM fun _ _=>rfl) B
  have D_law_times:=mF (P:=l.prog) (w:=w) (base:=base) (eI d13 X G fun _ _ _ _ _ _=>mM fun _ _=>rfl) B D_law_chosen
  have D_law_more:=n6 (P:=l.prog) (w:=w) (base:=base) (eI d14 X G fun _ _ _ _ _ _=>mM fun _ _=>rfl) B
  have D_law_due:=pN (P:=l.prog) (w:=w) (base:=base) (eI d15 X G fun _ _ _ _ _ _=>mM fun _ _=>rfl) B D_law_more D_law_times
  have D_law_right:=mG (P:=l.prog) (w:=w) (base:=base) (eI d16 X G fun _ _ _ _ _ _=>mM fun _ _=>rfl) B
  exact yG F0 B D_law_cord D_law_tame D_law_at D_law_due D_rows_in D_law_right
theorem pU {K:PySem.W.Frag} {h:Heap} (e:nsIn K mainGlobals "in_told_order"=some none):L2.qy K h:=fun b q z=>by
  unfold jv y_ at z
  rw [e] at z
  cases z
theorem Be {l:PySem.W.OpenLaw} {q:Program} {loose:List Str} {XP:(Str→Option Value)→Heap→Prop} {YP:World→Heap→Prop} {d:DefRec} {K:Params→PySem.W.Frag} (hn:l.most=some 63) (hdf:d.params.defaults=[])
    (hY:∀(w:World) (h:Heap),YP w h→(K w.params).In h∧qy (K w.params) h)
    (F:∀(w:World) (mg:Str→Option Value) (fa:Addr) (h:Heap),(K w.params).In h→h.Ns mainGlobals mg→mg d.name=some (.ref fa)→
      ∃fd:FuncData,(∀(s:Shared) (u:Value),BindsTo s fd ⟨[u],[]⟩ [("_law_script",u)])∧∀base:Heap,(K w.params).In base→base.Ns mainGlobals mg→FnOk l.prog w (K w.params) mg base sP 6 fa fd ["_law_script"] (fG (K w.params) g_)):
    PySem.W.WalkO q loose XP YP l.row.toRowW d [] (fun f vs=>PySem.call f vs):=
  L2.uE (n:=63) (k:=6) (x:="_law_script") (CX:=fun _=>sP) (sp:=fun w=>fG (K w.params) g_) hn (by decide) hdf ⟨rfl,by decide,by decide⟩ hY F (fun _ _ a ns hl hS=>yj (yS ns hl) hS) fun _ _ _ _ _ z=>z
end Nhk16
open PySem PySem.W PyProof.Rows
inductive PySem.W.Fast|tw10034146300303183008|tw1893250611609685152|tw16872717488586664192|tw5521509281758795168|tw1740688936896309473|tw11591443025648543009|tw8965076867112540513|tw6233780648368786913|tw10648984857841276577|tw16970044907283973985|tw6418014994608898977|tw13475625336435833825|tw18223836604663861250|tw12272285822534723970|tw6896955526391945602|tw16250271032284805986|tw11153881131471064034|tw15388486902683995363|tw16350410476397412707|tw3342462913820119716|tw2302609851303190789|tw3649571238826402085|tw18281107129372704133|tw8623563782744357701|tw4903588185536937797|tw8778583621811649702|tw18238446079225123014|tw12011062143393612230|tw16525914718514692678|tw8677799437278791398|tw5091677908473747302|tw8500102199312093191|tw15908178552558468231|tw678412868905801991|tw9705535685654565191|tw17469735495479570855|tw14616258006156476007|tw7901129311379880903|tw9417396424109919464|tw11932545561100355528|tw2392195375819548521|tw7936091394345145514|tw1132652753971232106|tw8226265288360561194|tw5374344422454397706|tw5803119322983962443|tw387583761106239756|tw5755751610801203564|tw14264332390759825004|tw17684063139020997580|tw7920060103268331181|tw3853000456044513294|tw12181794384320189742|tw17477318980232319374|tw17896015031276728878|tw708949077230631886|tw8704270400800091215|tw233120219317142895|tw4771493355303048719|tw12409559517412953647|tw11959696359567969839|tw13913856471326413455|tw5208453319704690607|tw5919760443784318959|tw778203988299528368|tw6105813066531356721|tw2776817168454676849|tw991811177981572465|tw4768707372708869521|tw14940385449443217682|tw15806157907953212754|tw10641920702589903506|tw8475686190848909074|tw15946537671587000210|tw3802357310858479827|tw18373442287199031123|tw12800665581938318356|tw17417747057758469268|tw14961476346427410004|tw17580163395863001716|tw2627177578588169012|tw14336216413504708757|tw5740302798355519797|tw2121581699625237173|tw3233456433203184182|tw2934224459092579158|tw6838874811579257143|tw2059258673405883287|tw1614234380432592791|tw3755330148636910712|tw16329030422953685017|tw9384923834063023737|tw13083562847937927290|tw62315236847474170|tw259554918546804442|tw1254349272119595002|tw16159294006697620955|tw14413709609550020603|tw3018810811696601340|tw3386609249242810812|tw2022278461543837564|tw2727538446660947262|tw17648952543386285534|tw17083393814168310270|tw18075710577058582270|tw1492969575093197822|tw3859015977595589087|tw16949164140327049087|tw9585465504414588831|tw17426418436985702959
set_option maxRecDepth 100000 in
set_option maxHeartbeats 0 in
theorem PySem.Challenge.cw_nailhang_k16_all_rows_of_a_length_holds : PySem.Challenge.rw_nailhang_k16_all_rows_of_a_length.Holds := by
  w_on;o_law;k_head;(case hw=>w_witness2)
  k_fill
  refine Nhk16.Be (l:=PySem.Challenge.rw_nailhang_k16_all_rows_of_a_length) rfl rfl (fun w h Y=>⟨PySem.W.kIn_of Y,Nhk16.pU (by k_is)⟩) ?F
  case F=>
    intro w mg fa h KX G hmg
    refine' Nhk16.yT KX G hmg (PL.zN KX G ?_ ?_ ?_ ?_ ?_ ?_ ?_ ?_ ?_ ?_ ?_ ?_ ?_ ?_ ?_ ?_ ?_ ?_ ?_ ?_) ?_ ?_ ?_ ?_ ?_ ?_ ?_ ?_ ?_ ?_ ?_ ?_ ?_ ?_ ?_ ?_ ?_
    all_goals first | (refine' Nhk16.Aj ?_ ?_ ?_ ?_ <;> first | k_is | skip) | k_is | exact rfl | kernel_rfl | skip
