import PyProof.Rows.All
import KE.KLam
import KE.KNestM
import PyProof.OldK
import Wide.All
import OpenK.AllK
import Wide.FinOn
import Lean
import PyProof.EqAt
import PyProof.EqKinds
import PyProof.TupleCall
import KE.KRevIter
import PyProof.Rows.SeqMore
import PyProof.Rows.ListMulArg
import PyProof.ZipIter
import PyProof.Rows.ZipGen
import PyProof.EnumMake
import PyProof.StrWalks
import PyProof.SliceStr2
import PyProof.StrBlockH
import PyProof.FString5
import PyProof.Rows.StrJoin2
import PyProof.Rows.Range3
import KE.KDictLaws
import PyProof.ConsumeWalk
import PyProof.SumWalkG
import PyProof.Rows.SeqCalls
import PyProof.Rows.SeqGen
import PyProof.Rows.MinMaxN
import PyProof.Rows.CallKwBuiltin
import PyProof.Rows.SortStr
import PyProof.StrOps2
import PyProof.Rows.StrMul
import PyProof.IsRules
import PyProof.Rows.SetFrom
import PyProof.CollectStr
import KE.KTryMore
import PyProof.PureStr
import PyProof.CallStr
import KE.KIntText
import KE.IntTextLaws
import PyProof.Rows.ReprOcc
import PyProof.StrLawsIdx
import PyProof.StrLawsIn
import PyProof.StrLaws
import KE.RegKIsAll
import KE.RegKTryMore
import PySem.Challenge.RW_nailhang_k62_terms_by_hand
set_option Elab.async false
set_option linter.all false
set_option maxRecDepth 100000
set_option maxHeartbeats 4000000
local macro_rules | `(tactic| omega) => `(tactic| lia)
noncomputable section
namespace L2
open PySem PySem.Spec PyProof.Rows
abbrev dG:=Sum Int Str
def vg:dG→Value→Bool
  | .inl k,v=>Value.isInt k v
  | .inr x,v=>Value.isStrOf x v
def yZ (w:World):dG→Int
  | .inl k=>hashInt k
  | .inr x=>hashStr w x
theorem bO:∀{k:dG} {v:Value},vg k v=true→(∃i t,k=Sum.inl i∧v=Value.int i t)∨(∃x t,k=Sum.inr x∧v=Value.str x t)
  | .inl i,v,h=>by
    obtain ⟨t,e⟩:=Value.isInt_shape (k:=i) (v:=v) h
    exact .inl ⟨i,t,rfl,e⟩
  | .inr x,v,h=>by
    obtain ⟨t,e⟩:=Value.isStrOf_shape (x:=x) (v:=v) h
    exact .inr ⟨x,t,rfl,e⟩
theorem vN (a b:Int):decide ((Sum.inl a:dG)=Sum.inl b)=(a == b):=by
  by_cases e:a=b
  · subst e;simp
  · have h:¬(Sum.inl a:dG)=Sum.inl b:=fun q=>e (Sum.inl.inj q)
    rw [decide_eq_false h]
    exact (beq_eq_false_iff_ne.mpr e).symm
theorem vO (a b:Str):decide ((Sum.inr a:dG)=Sum.inr b)=decide (a=b):=by
  by_cases e:a=b
  · subst e;simp
  · have h:¬(Sum.inr a:dG)=Sum.inr b:=fun q=>e (Sum.inr.inj q)
    rw [decide_eq_false h,decide_eq_false e]
theorem vP (a:Int) (b:Str):decide ((Sum.inl a:dG)=Sum.inr b)=false:=decide_eq_false (fun q=>nomatch q)
theorem vQ (a:Str) (b:Int):decide ((Sum.inr a:dG)=Sum.inl b)=false:=decide_eq_false (fun q=>nomatch q)
def jn (prog:Program) (w:World):PySem.KeyKind prog w dG where
  is:=vg
  hash:=yZ w
  inj:=fun v a b ha hb=>by
    rcases bO ha with ⟨i,t,rfl,rfl⟩ | ⟨x,t,rfl,rfl⟩
    · rcases bO hb with ⟨j,u,rfl,e⟩ | ⟨y,u,rfl,e⟩
      · injection e with e1 _;rw [e1]
      · exact nomatch e
    · rcases bO hb with ⟨j,u,rfl,e⟩ | ⟨y,u,rfl,e⟩
      · exact nomatch e
      · injection e with e1 _;rw [e1]
  byValue:=fun k v h=>by
    rcases bO h with ⟨i,t,rfl,rfl⟩ | ⟨x,t,rfl,rfl⟩ <;> rfl
  pyHash:=fun hv h=>by
    rcases bO hv with ⟨i,t,rfl,rfl⟩ | ⟨x,t,rfl,rfl⟩
    · exact wpAny_pyHash_int h
    · exact wpAny_pyHash_str h
  eqBool:=fun hu hv h=>by
    rcases bO hu with ⟨i,t,rfl,rfl⟩ | ⟨x,t,rfl,rfl⟩
    · rcases bO hv with ⟨j,u,rfl,rfl⟩ | ⟨y,u,rfl,rfl⟩
      · rw [vN] at h;exact wpAny_eqBool_int h
      · rw [vP] at h;exact SeqAt.EqAt.int_str i t y u _ _ _ _ h
    · rcases bO hv with ⟨j,u,rfl,rfl⟩ | ⟨y,u,rfl,rfl⟩
      · rw [vQ] at h;exact SeqAt.EqAt.str_int x t j u _ _ _ _ h
      · rw [vO] at h;exact wpAny_eqBool_str h
  «strs»:=fun k x t v h=>by
    rcases bO h with ⟨i,u,rfl,e⟩ | ⟨y,u,rfl,e⟩
    · exact nomatch e
    · injection e with e1 _
      subst e1
      cases v <;> rfl
end L2
namespace L2
open PySem PySem.Spec PyProof.Rows
inductive V where
  | non | bl (b:Bool) | int (i:Int) | str (x:Str) | byt (b:Array UInt8) | flt (b:UInt64) | ref (a:Addr) | ty (n:String)
  deriving DecidableEq
def RelV:V→Value→Prop
  | .non,u=>u=Value.none
  | .bl b,u=>u=Value.bool b
  | .int i,u=>∃t,u=Value.int i t
  | .str x,u=>∃t,u=Value.str x t
  | .byt b,u=>∃t,u=Value.bytes b t
  | .flt b,u=>∃t,u=Value.float b t
  | .ref a,u=>u=Value.ref a
  | .ty n,u=>u=Value.type n
abbrev Vals:List V→List Value→Prop:=Paired RelV
theorem Vals.length {xs:List V} {us:List Value} (r:Vals xs us):xs.length=us.length:=Paired.length r
theorem Vals.get:∀{xs:List V} {us:List Value} {i:Nat} {x:V},Vals xs us→xs[i]? =some x→∃u,us[i]? =some u∧RelV x u
  | _,_,_,_, .nil,e=>by simp at e
  | _,_,0,_, .cons r _,e=>by simp at e;subst e;exact ⟨_,rfl,r⟩
  | _,_,i+1,x, .cons _ t,e=>by
    obtain ⟨u,h1,h2⟩:=Vals.get (i:=i) (x:=x) t (by simpa using e)
    exact ⟨u,by simpa using h1,h2⟩
theorem Vals.set {x:V} {u:Value} (r:RelV x u):∀{xs:List V} {us:List Value} (i:Nat),Vals xs us→Vals (xs.set i x) (us.set i u)
  | _,_,_, .nil=> .nil
  | _,_,0, .cons _ t=> .cons r t
  | _,_,i+1, .cons q t=> .cons q (Vals.set r i t)
theorem Vals.append:∀{xs ys:List V} {us ws:List Value},Vals xs us→Vals ys ws→Vals (xs++ys) (us++ws)
  | _,_,_,_, .nil,s=>s
  | _,_,_,_, .cons r t,s=> .cons r (Vals.append t s)
theorem Vals.take:∀{xs:List V} {us:List Value} (n:Nat),Vals xs us→Vals (xs.take n) (us.take n)
  | _,_,0,_=> .nil
  | _,_,_+1, .nil=> .nil
  | _,_,n+1, .cons r t=> .cons r (Vals.take n t)
theorem Vals.drop:∀{xs:List V} {us:List Value} (n:Nat),Vals xs us→Vals (xs.drop n) (us.drop n)
  | _,_,0,r=>r
  | _,_,_+1, .nil=> .nil
  | _,_,n+1, .cons _ t=>Vals.drop n t
theorem Vals.none_of:∀{xs:List V} {us:List Value} {i:Nat},Vals xs us→xs[i]? =none→us[i]? =none:=fun {xs us i} r e=>by
  have h1:=r.length
  have h2:xs.length≤i:=List.getElem?_eq_none_iff.mp e
  exact List.getElem?_eq_none_iff.mpr (by omega)
def RelO:Option V→Option Value→Prop
  | some v,some u=>RelV v u
  | none,none=>True
  | _,_=>False
def KV {κ:Type}:List (κ×V)→List (κ×Value)→Prop:=Paired fun (p:κ×V) (q:κ×Value)=>p.1=q.1∧RelV p.2 q.2
def kV:dG→V
  | .inl i=> .int i
  | .inr x=> .str x
inductive HO where
  /-- a list -/
  | lst (xs:List V)
  /-- a tuple (never changes) -/
  | tup (xs:List V)
  /-- a dict whose keys are ints and texts;one whose keys are tuples of ints and texts (the empty one is both) -/
  | dK (kvs:List (dG×V)) | dT (kvs:List (List dG×V))
  /-- a set of ints:its members,its size -/
  | set (S:Int→Bool) (n:Nat)
  /-- an instance of the class at C,its dict at dx,its attributes -/
  | ins (C dx:Addr) (fs:List (Str×V))
  /-- the dict of the instance at x -/
  | own (x:Addr)
  /-- the dict of an exception -/
  | xd (fs:List (Str×V))
  /-- a bound method,f of x -/
  | met (f x:Addr)
  /-- a range object lo,lo+1, .. below hi -/
  | rng (lo hi:Int)
  /-- a thing that is known to the object (the script;a dict while a loop walks it):read,never written while it is so -/
  | frz (o:Obj) (u:HO)
  /-- a code object's table -/
  | tbl (q:Str)
  /-- any other thing,by what is true of its one object (a def of one's own:SetO a S n:=HO.ext fun h=> ..) -/
  | ext (φ:Heap→Prop)
abbrev Hp:=Addr→Option HO
def upd (H:Hp) (a:Addr) (o:HO):Hp:=fun b=>if b=a then some o else H b
theorem upd_same {H:Hp} {a:Addr} {o:HO}:upd H a o a=some o:=by unfold upd;rw [if_pos rfl]
theorem am {H:Hp} {a b:Addr} {o:HO} (h:b≠a):upd H a o b=H b:=by unfold upd;rw [if_neg h]
theorem jp {H:Hp} {a:Addr} {o u:HO}:upd (upd H a o) a u=upd H a u:=by
  funext b;unfold upd;split <;> rfl
theorem vh {H:Hp} {a b:Addr} {o u:HO} (h:H a=some o) (h':H b=some u) (d:o≠u):a≠b:=by
  intro e;subst e;rw [h] at h';exact d (Option.some.inj h')
theorem aG {H:Hp} {a b:Addr} {o:HO} (h:H a=some o) (h':H b=none):a≠b:=by
  intro e;subst e;rw [h] at h';cases h'
section
variable (P:Program) (w:World)
def ObjOk (H:Hp) (h:Heap) (a:Addr):HO→Prop
  | .lst xs=>xs.length≤sizeLine∧∃(its:List Value) (n:Nat),Vals xs its∧h.get? a=some {cls:= .type "list",data:= .seq its.toArray n}
  | .tup xs=>xs.length≤sizeLine∧∃its:List Value,Vals xs its∧IsTup h a its.toArray
  | .dK kvs=>kvs.length≤sizeLine∧(a == sysModules)=false∧∃vs,KV kvs vs∧h.DictOf (jn P w) a vs
  | .dT kvs=>kvs.length≤sizeLine∧(a == sysModules)=false∧∃xs:List (List dG×Addr×Value),
      Paired (fun (p:List dG×V) (q:List dG×Addr×Value)=>p.1=q.1∧H q.2.1=some (.tup (p.1.map kV))∧RelV p.2 q.2.2) kvs xs∧
      ∃o es ep,h.get? a=some o∧o.ExactDict∧o.data= .dict es ep∧es.toList=xs.map (entryOfKey (tupleKind (jn P w)))∧(xs.map (·.1)).Nodup
  | .set S n=>h.SetOf (intKind P w) a S n
  | .ins C dx fs=>H dx=some (.own a)∧fs.length≤1000∧dx≠a∧h.get? a=some (PySem.W.instObj C dx)∧
      ∃mA,h.Ns1 dx mA∧(∀f,RelO (fs.lookup f) (mA f))∧PySem.Within mA (fs.map (·.1))
  | .own _=>∃o,h.get? a=some o
  | .xd fs=>∃mA,h.Ns1 a mA∧∀f,RelO (fs.lookup f) (mA f)
  | .rng lo hi=>∃t u v,h.get? a=some {cls:= .type "range",data:= .fields #[.int lo t, .int hi u, .int 1 v]}
  | .frz o u=>h.get? a=some o∧ObjOk H h a u
  | .tbl q=>∃ps:Array Value,h.get? a=some (PySem.W.tabObj ps)∧TriplesOk ps.toList∧∀pos cv,codeAmong pos ps.toList=some cv→∃c,cv=Value.ref c∧H c=some (.own a)∧h.CodeRec cv q
  | .met f x=>h.get? a=some (PySem.W.methodObj (.ref f) (.ref x))
  | .ext φ=>φ h∧(∃o,h.get? a=some o)∧∀h1 h2:Heap,φ h1→(∀o,h1.get? a=some o→h2.get? a=some o)→φ h2
def HOk (H:Hp) (h:Heap):Prop:=∀a o,H a=some o→ObjOk P w H h a o
end
section
variable {P:Program} {w:World} {H H':Hp} {h h':Heap} {a:Addr} {o:HO}
theorem ObjOk.lt (x:ObjOk P w H h a o):a < h.objs.size:=by
  cases o with
  | lst xs=>obtain ⟨_,_,_,_,e⟩:=x;exact Heap.lt_size e
  | tup xs=>obtain ⟨_,_,_,p⟩:=x;exact p.lt
  | dK kvs=>obtain ⟨_,_,_,_,o,_,_,e,_⟩:=x;exact Heap.lt_size e
  | dT kvs=>obtain ⟨_,_,_,_,o,_,_,e,_⟩:=x;exact Heap.lt_size e
  | set S n=>obtain ⟨o,_,_,_,e,_⟩:=x;exact Heap.lt_size e
  | ins C dx fs=>obtain ⟨_,_,_,e,_⟩:=x;exact Heap.lt_size e
  | own y=>obtain ⟨_,e⟩:=x;exact Heap.lt_size e
  | xd fs=>obtain ⟨_,⟨_,_,_,e,_⟩,_⟩:=x;exact Heap.lt_size e
  | rng lo hi=>obtain ⟨_,_,_,e⟩:=x;exact Heap.lt_size e
  | frz ob u=>obtain ⟨e,_⟩:=x;exact Heap.lt_size e
  | tbl q=>obtain ⟨_,e,_⟩:=x;exact Heap.lt_size e
  | met f y=>exact Heap.lt_size (show h.get? a=some _ from x)
  | ext φ=>obtain ⟨_,⟨_,e⟩,_⟩:=x;exact Heap.lt_size e
theorem Paired.mapP {α β:Type} {F G:α→β→Prop} {l₁:List α} {l₂:List β} (h:Paired F l₁ l₂) (f:∀a b,F a b→G a b):Paired G l₁ l₂:=by
  induction h with
  | nil=>exact .nil
  | cons r _ t=>exact .cons (f _ _ r) t
theorem ObjOk.stay (x:ObjOk P w H h a o) (k:∀b u,(b=a∨H b=some (.own a))→h.get? b=some u→h'.get? b=some u)
    (ho:∀b,H b=some (.own a)→H' b=some (.own a)) (ht:∀b xs,H b=some (.tup xs)→H' b=some (.tup xs)):ObjOk P w H' h' a o:=by
  induction o with
  | lst xs=>obtain ⟨z,its,n,r,e⟩:=x;exact ⟨z,its,n,r,k _ _ (.inl rfl) e⟩
  | tup xs=>obtain ⟨z,its,r,ob,e,c⟩:=x;exact ⟨z,its,r,ob,k _ _ (.inl rfl) e,c⟩
  | dK kvs=>obtain ⟨z,y,vs,r,ob,es,ep,e,c⟩:=x;exact ⟨z,y,vs,r,ob,es,ep,k _ _ (.inl rfl) e,c⟩
  | dT kvs=>
    obtain ⟨z,y,xs,r,ob,es,ep,e,c⟩:=x
    exact ⟨z,y,xs,Paired.mapP r fun p q z=>⟨z.1,ht _ _ z.2.1,z.2.2⟩,ob,es,ep,k _ _ (.inl rfl) e,c⟩
  | set S n=>obtain ⟨ob,es,ep,t,e,c⟩:=x;exact ⟨ob,es,ep,t,k _ _ (.inl rfl) e,c⟩
  | ins C dx fs=>
    obtain ⟨d,z,ne,e,mA,⟨od,es,ep,e2,c⟩,r⟩:=x
    exact ⟨ho _ d,z,ne,k _ _ (.inl rfl) e,mA,⟨od,es,ep,k _ _ (.inr d) e2,c⟩,r⟩
  | own y=>obtain ⟨ob,e⟩:=x;exact ⟨ob,k _ _ (.inl rfl) e⟩
  | xd fs=>obtain ⟨mA,⟨od,es,ep,e,c⟩,r⟩:=x;exact ⟨mA,⟨od,es,ep,k _ _ (.inl rfl) e,c⟩,r⟩
  | rng lo hi=>obtain ⟨t,u,v,e⟩:=x;exact ⟨t,u,v,k _ _ (.inl rfl) e⟩
  | frz ob u ih=>obtain ⟨e,q⟩:=x;exact ⟨k _ _ (.inl rfl) e,ih q⟩
  | tbl q=>
    obtain ⟨ps,e,t,r⟩:=x
    refine ⟨ps,k _ _ (.inl rfl) e,t,fun pos cv z=>?_⟩
    obtain ⟨c,ec,ho',c2,oc,vs,tq,hc,hoc,hd⟩:=r pos cv z
    subst ec
    cases hc
    exact ⟨c,rfl,ho _ ho',c,oc,vs,tq,rfl,k _ _ (.inr ho') hoc,hd⟩
  | met f y=>
    have e:h.get? a=some (PySem.W.methodObj (.ref f) (.ref y)):=x
    show h'.get? a=some (PySem.W.methodObj (.ref f) (.ref y))
    exact k a _ (.inl rfl) e
  | ext φ=>obtain ⟨p,⟨o,e⟩,st⟩:=x;exact ⟨st _ _ p fun o q=>k _ _ (.inl rfl) q,⟨o,k _ _ (.inl rfl) e⟩,st⟩
theorem HOk.lt (x:HOk P w H h) (e:H a=some o):a < h.objs.size:=(x a o e).lt
theorem HOk.fresh (x:HOk P w H h) (e:h.objs.size≤a):H a=none:=by
  cases q:H a with
  | none=>rfl
  | some u=>exact absurd (Nat.lt_of_lt_of_le (x.lt q) e) (Nat.lt_irrefl _)
theorem HOk.kept (x:HOk P w H h) (k:∀b u,h.get? b=some u→h'.get? b=some u):HOk P w H h':=fun a o e=>
  (x a o e).stay (fun b u _ q=>k b u q) (fun _ q=>q) fun _ _ q=>q
theorem HOk.laid (x:HOk P w H h) (k:∀b u,h.get? b=some u→h'.get? b=some u) (hp:h.objs.size≤a) (new:ObjOk P w (upd H a o) h' a o):HOk P w (upd H a o) h':=fun b u e=>by
  have hn:=x.fresh hp
  by_cases hb:b=a
  · subst hb;rw [upd_same] at e;cases e;exact new
  · rw [am hb] at e
    exact (x b u e).stay (fun c v _ q=>k c v q) (fun c q=>by rw [am (aG q hn)];exact q) fun c xs q=>by rw [am (aG q hn)];exact q
end
def Rd (H:Hp) (a:Addr) (u:HO):Prop:=H a=some u∨∃o,H a=some (.frz o u)
theorem Rd.of {H:Hp} {a:Addr} {u:HO} (h:H a=some u):Rd H a u:= .inl h
theorem Rd.ok {P:Program} {w:World} {H:Hp} {h:Heap} {a:Addr} {u:HO} (r:Rd H a u) (x:HOk P w H h):ObjOk P w H h a u:=by
  rcases r with r | ⟨o,r⟩
  · exact x a u r
  · obtain ⟨_,q⟩:=x a _ r
    exact q
def yM:Option HO→Prop
  | some (.lst _)=>True
  | some (.dK _)=>True
  | some (.dT _)=>True
  | some (.set _ _)=>True
  | some (.ins _ _ _)=>True
  | some (.ext _)=>True
  | _=>False
section
variable {P:Program} {w:World} {H:Hp} {h h':Heap} {x e:Addr} {o':HO}
theorem HOk.write (ok:HOk P w H h) (mu:yM (H x)) (he:e=x∨H e=some (.own x)) (k:∀b u,b≠e→h.get? b=some u→h'.get? b=some u) (heo:∃u,h'.get? e=some u)
    (new:ObjOk P w (upd H x o') h' x o'):HOk P w (upd H x o') h':=fun b u q=>by
  have nown:∀c y,H c=some (.own y)→c≠x:=fun c y r z=>by subst z;rw [r] at mu;exact mu
  have ntup:∀c xs,H c=some (.tup xs)→c≠x:=fun c xs r z=>by subst z;rw [r] at mu;exact mu
  by_cases hb:b=x
  · subst hb;rw [upd_same] at q;cases q;exact new
  · rw [am hb] at q
    by_cases hbe:b=e
    · have q':H b=some (.own x):=by
        rcases he with z | z
        · exact absurd (hbe.trans z) hb
        · rw [hbe];exact z
      rw [q] at q';cases q'
      obtain ⟨v,hv⟩:=heo
      exact ⟨v,by rw [hbe];exact hv⟩
    · refine (ok b u q).stay (fun c v hc r=>k c v ?_ r) (fun c r=>by rw [am (nown c b r)];exact r) fun c xs r=>by rw [am (ntup c xs r)];exact r
      rcases hc with rfl | hc
      · exact hbe
      · rintro rfl
        rcases he with z | z
        · exact nown c b hc z
        · rw [hc] at z;cases z;exact hb rfl
end
structure Un (fs ex:List Addr) (H H':Hp) (h h':Heap):Prop where
  keep:∀b o,h.get? b=some o→H b=none→b∉fs→b∉ex→h'.get? b=some o
  slot:∀b o,h.get? b=some o→H b=none→b∈fs→b∉ex→∃sl,h'.get? b=some {o with slots:=sl}
  free:∀b o,h.get? b=some o→H b=none→b∉ex→H' b=none
  there:∀b o,h.get? b=some o→b∉ex→∃o',h'.get? b=some o'
  tups:∀b xs,H b=some (.tup xs)→H' b=some (.tup xs)
  frzs:∀b o u,H b=some (.frz o u)→H' b=some (.frz o u)
  tbls:∀b ps,H b=some (.tbl ps)→H' b=some (.tbl ps)
section
variable {fs fs' ex ex':List Addr} {H H1 H2:Hp} {h h1 h2 h':Heap} {a x e:Addr} {o:HO}
theorem Un.any (u:Un fs ex H H1 h h1) {b:Addr} {ob:Obj} (q:h.get? b=some ob) (n:H b=none) (hx:b∉ex):∃sl,h1.get? b=some {ob with slots:=sl}:=by
  by_cases hb:b∈fs
  · exact u.slot b ob q n hb hx
  · exact ⟨ob.slots,u.keep b ob q n hb hx⟩
theorem Un.trans (a:Un fs ex H H1 h h1) (b:Un fs ex H1 H2 h1 h2):Un fs ex H H2 h h2 where
  keep:=fun c ob q n hc hx=>b.keep c ob (a.keep c ob q n hc hx) (a.free c ob q n hx) hc hx
  slot:=fun c ob q n hc hx=>by
    obtain ⟨sl,e1⟩:=a.slot c ob q n hc hx
    obtain ⟨sl',e2⟩:=b.slot c _ e1 (a.free c ob q n hx) hc hx
    exact ⟨sl',e2⟩
  free:=fun c ob q n hx=>by
    obtain ⟨o',e1⟩:=a.there c ob q hx
    exact b.free c o' e1 (a.free c ob q n hx) hx
  there:=fun c ob q hx=>by
    obtain ⟨o',e1⟩:=a.there c ob q hx
    exact b.there c o' e1 hx
  tups:=fun c xs q=>b.tups c xs (a.tups c xs q)
  frzs:=fun c ob xs q=>b.frzs c ob xs (a.frzs c ob xs q)
  tbls:=fun c ps q=>b.tbls c ps (a.tbls c ps q)
theorem Un.kept (k:∀b u,h.get? b=some u→h'.get? b=some u):Un fs ex H H h h':=
  ⟨fun b ob q _ _ _=>k b ob q,fun b ob q _ _ _=>⟨ob.slots,k b ob q⟩,fun _ _ _ n _=>n,fun b ob q _=>⟨ob,k b ob q⟩,fun _ _ q=>q,fun _ _ _ q=>q,fun _ _ q=>q⟩
theorem Un.refl:Un fs ex H H h h:=Un.kept fun _ _ q=>q
theorem Un.laid (k:∀b u,h.get? b=some u→h'.get? b=some u) (hp:h.objs.size≤a) (hn:H a=none):Un fs ex H (upd H a o) h h' where
  keep:=fun b u q _ _ _=>k b u q
  slot:=fun b u q _ _ _=>⟨u.slots,k b u q⟩
  free:=fun b u q n _=>by rw [am (Nat.ne_of_lt (Nat.lt_of_lt_of_le (Heap.lt_size q) hp))];exact n
  there:=fun b u q _=>⟨u,k b u q⟩
  tups:=fun b xs q=>by rw [am (aG q hn)];exact q
  frzs:=fun b u xs q=>by rw [am (aG q hn)];exact q
  tbls:=fun b ps q=>by rw [am (aG q hn)];exact q
theorem Un.write (mu:yM (H x)) (he:e=x∨H e=some (.own x)) (k:∀b u,b≠e→h.get? b=some u→h'.get? b=some u) (heo:∃u,h'.get? e=some u):Un fs ex H (upd H x o) h h':=by
  have hx:∀b,H b=none→b≠x:=fun b n z=>by subst z;rw [n] at mu;exact mu
  have hb:∀b,H b=none→b≠e:=fun b n z=>by
    subst z
    rcases he with r | r
    · exact hx b n r
    · rw [n] at r;cases r
  have hm:∀b u,H b=some u→¬yM (some u)→b≠x:=fun b u q nm z=>by subst z;rw [q] at mu;exact nm mu
  refine ⟨fun b u q n _ _=>k b u (hb b n) q,fun b u q n _ _=>⟨u.slots,k b u (hb b n) q⟩,fun b u q n _=>by rw [am (hx b n)];exact n,fun b u q _=>?_,
    fun b xs q=>by rw [am (hm b _ q fun z=>z)];exact q,fun b u xs q=>by rw [am (hm b _ q fun z=>z)];exact q,fun b ps q=>by rw [am (hm b _ q fun z=>z)];exact q⟩
  by_cases hbe:b=e
  · subst hbe;exact heo
  · exact ⟨u,k b u hbe q⟩
theorem Un.mono (u:Un fs ex H H1 h h1) (hs:∀b∈fs,b∈fs') (hx:∀b∈ex,b∈ex'):Un fs' ex' H H1 h h1:=
  ⟨fun b ob q n hb he=>u.keep b ob q n (fun z=>hb (hs b z)) fun z=>he (hx b z),fun _ _ q n _ he=>u.any q n fun z=>he (hx _ z),fun b ob q n he=>u.free b ob q n fun z=>he (hx b z),fun b ob q he=>u.there b ob q fun z=>he (hx b z),u.tups,u.frzs,u.tbls⟩
end
def yN (h:Heap) (H:Hp):List Addr:=(List.range h.objs.size).filter fun a=>(H a).isSome
def mF (h:Heap) (H:Hp):Heap:=PySem.W.hideAll h (yN h H)
theorem pD (h:Heap) (H:Hp):(mF h H).objs.size=h.objs.size:=PySem.W.hideAll_size _ _
theorem jx {h:Heap} {H:Hp} {b:Addr} {o:Obj} (e:h.get? b=some o) (n:H b=none):(mF h H).get? b=some o:=
  PySem.W.hideAll_get _ e fun hm=>by
    have q:(H b).isSome=true:=(List.mem_filter.mp hm).2
    rw [n] at q;simp at q
theorem tR {h:Heap} {H:Hp} {b:Addr} {o:Obj} (e:(mF h H).get? b=some o):h.get? b=some o∧H b=none:=by
  have e':h.get? b=some o:=PySem.W.of_hideAll (yN h H) e
  refine ⟨e',?_⟩
  cases q:H b with
  | none=>rfl
  | some x=>
    have hm:b∈yN h H:=List.mem_filter.mpr ⟨List.mem_range.mpr (Heap.lt_size e'),by simp [q]⟩
    have z:(mF h H).get? b=none:=PySem.W.hideAll_none (yN h H) hm
    rw [z] at e;cases e
def tS (g h:Heap) (L:Addr):List (Addr×Obj):=(List.range h.objs.size).filterMap fun a=>if a=L∨(g.get? a).isSome=true then none else (h.get? a).map fun o=>(a,o)
def bD (g h:Heap) (L d:Addr):List (Addr×Obj):=(tS g h L).filter fun p=>decide (p.1≠d)
end L2
namespace L2
open PySem PySem.Spec PyProof.Rows
def qE (K:PySem.W.Frag) (n:Str):Option Addr:=match PySem.W.nsIn K mainGlobals n with
  | some (some (.ref f))=>match K.lookup f with
    | some ⟨_,_, .func fd,_⟩=>match fd.code with
      | .ref c=>match K.lookup c with
        | some ⟨_,_, .fields vs,_⟩=>match (vs[11]? :Option Value) with
          | some (.ref P)=>some P
          | _=>none
        | _=>none
      | _=>none
    | _=>none
  | _=>none
def vi:List (Str×Str):=[("in_told_order","in_told_order.<locals>.<lambda>"),("_law_moves_refused","_law_moves_refused.<locals>.<lambda>"),("_law_long_refused","_law_long_refused.<locals>.<lambda>"),("_law_sets_refused","_law_sets_refused.<locals>.<lambda>"),("_law_cords_refused","_law_cords_refused.<locals>.<lambda>"),("_law_many_refused","_law_many_refused.<locals>.<lambda>"),("_law_two_refused","_law_two_refused.<locals>.<lambda>"),("_law_at_least_refused","_law_at_least_refused.<locals>.<lambda>")]
def tT (K:PySem.W.Frag) (b:Addr):List (Str×Str)→Option Str
  | []=>none
  | n::r=>if qE K n.1=some b then some n.2 else tT K b r
def jy (K:PySem.W.Frag) (b:Addr):Option Str:=tT K b vi
structure Mod (K:PySem.W.Frag) (mg:Str→Option Value) (base:Heap):Prop where
  kin:K.In base
  glob:base.Ns mainGlobals mg
  blt:∃mb,base.Ns builtinsNs mb∧∀x:Str,x≠"__name__"→mb x=bootBuiltins x
  nolimit:base.NoLimit
  bmain:∃bm ob,mg "__builtins__"=some (.ref bm)∧bm≠builtinsNs∧base.get? bm=some ob∧ob.cls= .type "module"∧ob.dict=some builtinsNs∧ob.data= .plain
structure Cx where
  prog:Program
  w:World
  K:PySem.W.Frag
  mg:Str→Option Value
  base:Heap
  A:Around
  N:List Str
  s₀:Shared
  H₀:Hp
  env:Env
  outer:List Env
  stack:List Env
  ex:List Addr
  fn:Str→Bool
  calm:Bool
  pn:List (Addr×Obj)
  xe:Value→Shared→Prop
def jf (l:List Env):List Addr:=l.filterMap (·.frame)
abbrev Cx.fs (X:Cx):List Addr:=jf X.outer
def vR (sc:Scope) (x:Str):Prop:=sc.names.lookup x=some .local∨sc.names.lookup x=some .cell∨sc.names.lookup x=some .free
def vS (sc:Scope) (x:Str):Prop:=sc.names.lookup x=some .local∨sc.names.lookup x=some .cell
def y1 (env:Env) (h:Heap) (m:Str→Option Value) (x:Str) (u:Value):Prop:=
  (env.kindOf x=some .local∧m x=some u)∨((env.kindOf x=some .cell∨env.kindOf x=some .free)∧∃c,env.cells.lookup x=some c∧h.IsCell c (some u))
structure Cx.Ok (X:Cx):Prop where
  mod:Mod X.K X.mg X.base
  kind:X.env.scope.kind= .function
  glob:X.env.globals=mainGlobals
  blt:X.env.builtins=builtinsNs
  above:X.s₀.heap.objs.size≤X.env.locals
  inj:∀x y c,X.env.cells.lookup x=some c→X.env.cells.lookup y=some c→x=y
  has:∀x,(X.env.kindOf x=some .cell∨X.env.kindOf x=some .free)→∃c,X.env.cells.lookup x=some c
  cab:∀x c,X.fn x=true→X.env.cells.lookup x=some c→X.s₀.heap.objs.size≤c
  hd:X.calm=true→X.A.handled=none
  frames:X.A.frames=some X.stack
  stk:X.stack=X.outer∨(X.stack=X.env::X.outer∧X.env.frame=some X.env.locals)
  exf:∀b∈X.ex,b≠X.env.locals∧∀x c,X.env.cells.lookup x=some c→c≠b
  bs:∀b o,X.base.get? b=some o→X.s₀.heap.get? b=some o∧X.H₀ b=none
  bsz:X.base.objs.size≤X.s₀.heap.objs.size
  noex:∀b o,X.base.get? b=some o→b∉X.ex
  exfs:∀b∈X.ex,b∉X.fs
  funs:X.s₀.heap.FunFrames X.base X.outer
  frf:∀b∈X.fs,X.H₀ b=none
  tab:∀b q,jy X.K b=some q→X.H₀ b=some (.tbl q)
structure Inv (X:Cx) (pins:List (Addr×Obj)) (σ:List (Option V)) (H:Hp) (s:Shared):Prop where
  ok:X.Ok
  os:s.os=X.s₀.os
  bare:AllBare s.gens
  base:Un X.fs X.ex X.H₀ H X.s₀.heap s.heap
  loc:∃m,s.heap.Ns X.env.locals m∧∀(i:Nat) (x:Str) (v:V),X.N[i]? =some x→σ[i]? =some (some v)→vR X.env.scope x→∃u,RelV v u∧y1 X.env s.heap m x u
  cell:∀x c,X.env.cells.lookup x=some c→∃v,s.heap.IsCell c v
  free:H X.env.locals=none
  freeC:∀x c,X.env.cells.lookup x=some c→H c=none
  pin:∀p∈X.pn++pins,s.heap.get? p.1=some p.2∧H p.1=none∧p.1≠X.env.locals∧p.1∉X.fs∧∀v,p.2.data≠ .cell v
  hok:HOk X.prog X.w H s.heap
  len:σ.length=X.N.length
section
variable {X:Cx} {pins:List (Addr×Obj)} {σ:List (Option V)} {H H':Hp} {s:Shared} {h':Heap}
theorem Cx.Ok.nofr (ok:X.Ok) {b:Addr} {o:Obj} (e:X.base.get? b=some o):b∉X.fs:=fun hb=>by
  have:=(ok.funs.mem hb).1
  rw [e] at this;cases this
theorem Inv.bs (I:Inv X pins σ H s):∀b o,X.base.get? b=some o→s.heap.get? b=some o∧H b=none:=fun b o e=>
  ⟨I.base.keep b o (I.ok.bs b o e).1 (I.ok.bs b o e).2 (I.ok.nofr e) (I.ok.noex b o e),I.base.free b o (I.ok.bs b o e).1 (I.ok.bs b o e).2 (I.ok.noex b o e)⟩
theorem Inv.bk (I:Inv X pins σ H s):∀b o,X.base.get? b=some o→s.heap.get? b=some o:=fun b o e=>(I.bs b o e).1
theorem Inv.mod (I:Inv X pins σ H s):Mod X.K X.mg X.base:=I.ok.mod
theorem Inv.tab (I:Inv X pins σ H s):∀b q,jy X.K b=some q→H b=some (.tbl q):=fun b q e=>I.base.tbls b q (I.ok.tab b q e)
theorem Inv.kIn (I:Inv X pins σ H s):X.K.In s.heap:=I.ok.mod.kin.keeps I.bk
theorem Inv.nolimit (I:Inv X pins σ H s):s.heap.NoLimit:=I.ok.mod.nolimit.keeps I.bk
theorem Inv.fr (I:Inv X pins σ H s):∃m,Fr X.base X.env.locals s.heap m:=
  let ⟨m,hn,_⟩:=I.loc
  ⟨m,hn,I.bk,Nat.le_trans I.ok.bsz I.ok.above⟩
theorem Inv.lt (I:Inv X pins σ H s):X.env.locals < s.heap.objs.size:=let ⟨_,hn,_⟩:=I.loc;hn.lt
theorem Inv.sz (I:Inv X pins σ H s):X.s₀.heap.objs.size≤s.heap.objs.size:=Nat.le_trans I.ok.above (Nat.le_of_lt I.lt)
theorem Inv.nofs (I:Inv X pins σ H s) {a:Addr} (h:s.heap.objs.size≤a):a∉X.fs:=fun hb=>by
  obtain ⟨_,o,ho,_⟩:=I.ok.funs.mem hb
  exact absurd (Nat.lt_of_lt_of_le (Heap.lt_size ho) (Nat.le_trans I.sz h)) (Nat.lt_irrefl _)
theorem Inv.cne (I:Inv X pins σ H s):∀x c,X.env.cells.lookup x=some c→c≠X.env.locals:=fun x c e z=>by
  obtain ⟨v,o,ho,hd⟩:=I.cell x c e
  obtain ⟨m,⟨o',es,ep,ho',hd',_⟩,_⟩:=I.loc
  rw [z,ho'] at ho;cases ho;rw [hd'] at hd;cases hd
theorem Inv.funs (I:Inv X pins σ H s):s.heap.FunFrames X.base X.outer:=by
  have all:∀(l:List Env),(∀b∈jf l,b∈X.fs)→X.s₀.heap.FunFrames X.base l→s.heap.FunFrames X.base l:=by
    intro l
    induction l with
    | nil=>intro _ _;trivial
    | cons env r ih=>
      intro hs hl
      obtain ⟨hk,⟨L,o,hf,hn,ho,hd⟩,hr⟩:=hl
      have hL:L∈X.fs:=hs L (by unfold jf;rw [List.filterMap_cons,hf];exact List.mem_cons_self)
      obtain ⟨sl,e⟩:=I.base.slot L o ho (I.ok.frf L hL) hL fun z=>I.ok.exfs L z hL
      exact ⟨hk,⟨L,_,hf,hn,e,hd⟩,ih (fun b hb=>hs b (by unfold jf;rw [List.filterMap_cons,hf];exact List.mem_cons_of_mem _ hb)) hr⟩
  exact all X.outer (fun _ hb=>hb) I.ok.funs
theorem Inv.stack (I:Inv X pins σ H s):s.heap.FunFrames X.base X.stack:=by
  rcases I.ok.stk with e | ⟨e,hf⟩
  · rw [e];exact I.funs
  · rw [e]
    obtain ⟨m,hn,_⟩:=I.loc
    refine .cons (by rw [I.ok.kind];decide) hf hn ?_ I.funs
    exact Heap.get?_none_of_le (Nat.le_trans I.ok.bsz I.ok.above)
theorem Inv.stkSub (I:Inv X pins σ H s):∀b∈jf X.stack,b∈X.env.locals::X.fs:=fun b hb=>by
  rcases I.ok.stk with e | ⟨e,hf⟩
  · rw [e] at hb;exact List.mem_cons_of_mem _ hb
  · rw [e] at hb
    unfold jf at hb
    rw [List.filterMap_cons,hf] at hb
    exact hb
theorem Inv.stkFree (I:Inv X pins σ H s):∀b∈jf X.stack,H b=none:=fun b hb=>by
  rcases List.mem_cons.mp (I.stkSub b hb) with e | hb
  · rw [e];exact I.free
  · obtain ⟨_,o,ho,_⟩:=I.ok.funs.mem hb
    exact I.base.free b o ho (I.ok.frf b hb) fun z=>I.ok.exfs b z hb
theorem Inv.step {g':Array GenState} {t':Nat} {d':Drawn} {ch:List Addr} (I:Inv X pins σ H s)
    (hch:∀b∈ch,(b∈X.ex∨X.s₀.heap.objs.size≤b)∧b≠X.env.locals∧(∀x c,X.env.cells.lookup x=some c→c≠b)∧∀p∈X.pn++pins,p.1≠b)
    (keep:∀b o,b≠X.env.locals→b∉X.fs→b∉ch→s.heap.get? b=some o→H b=none→h'.get? b=some o)
    (slot:∀b o,b≠X.env.locals→b∈X.fs→b∉ch→s.heap.get? b=some o→H b=none→∃sl,h'.get? b=some {o with slots:=sl}) (free:∀b o,b∉ch→s.heap.get? b=some o→H b=none→H' b=none)
    (there:∀b o,b∉ch→s.heap.get? b=some o→∃o',h'.get? b=some o')
    (tups:∀b xs,H b=some (.tup xs)→H' b=some (.tup xs)) (frzs:∀b o u,H b=some (.frz o u)→H' b=some (.frz o u)) (tbls:∀b ps,H b=some (.tbl ps)→H' b=some (.tbl ps))
    (ns:∀m,s.heap.Ns X.env.locals m→h'.Ns X.env.locals m) (hok:HOk X.prog X.w H' h') (hg:AllBare g'):
    Inv X pins σ H' {s with heap:=h',gens:=g',drawn:=d',toks:=t'}:=by
  have neL:∀b o,X.s₀.heap.get? b=some o→b≠X.env.locals:=fun b o e=>Nat.ne_of_lt (Nat.lt_of_lt_of_le (Heap.lt_size e) I.ok.above)
  have neC:∀b o,X.s₀.heap.get? b=some o→b∉X.ex→b∉ch:=fun b o e hx hb=>by
    rcases (hch b hb).1 with z | z
    · exact hx z
    · exact absurd (Nat.lt_of_lt_of_le (Heap.lt_size e) z) (Nat.lt_irrefl _)
  have cellK:∀x c,X.env.cells.lookup x=some c→∀v,s.heap.IsCell c v→h'.IsCell c v:=fun x c e v ⟨o,ho,hd⟩=>by
    have nch:c∉ch:=fun z=>(hch c z).2.2.1 x c e rfl
    by_cases hc:c∈X.fs
    · obtain ⟨sl,q⟩:=slot c o (I.cne x c e) hc nch ho (I.freeC x c e)
      exact ⟨_,q,hd⟩
    · exact ⟨o,keep c o (I.cne x c e) hc nch ho (I.freeC x c e),hd⟩
  refine ⟨I.ok,I.os,hg,⟨fun b o e n hb hx=>?_,fun b o e n hb hx=>?_,fun b o e n hx=>?_,fun b o e hx=>?_,fun b xs e=>tups b xs (I.base.tups b xs e),fun b o xs e=>frzs b o xs (I.base.frzs b o xs e),fun b ps e=>?_⟩,?_,fun x c e=>?_,?_,fun x c e=>?_,fun p hp=>?_,hok,I.len⟩
  · exact keep b o (neL b o e) hb (neC b o e hx) (I.base.keep b o e n hb hx) (I.base.free b o e n hx)
  · obtain ⟨sl,e1⟩:=I.base.slot b o e n hb hx
    obtain ⟨sl',e2⟩:=slot b _ (neL b o e) hb (neC b o e hx) e1 (I.base.free b o e n hx)
    exact ⟨sl',e2⟩
  · obtain ⟨o',e1⟩:=I.base.there b o e hx
    exact free b o' (neC b o e hx) e1 (I.base.free b o e n hx)
  · obtain ⟨o',e1⟩:=I.base.there b o e hx
    exact there b o' (neC b o e hx) e1
  · exact tbls b _ (I.base.tbls b ps e)
  · obtain ⟨m,hn,hl⟩:=I.loc
    refine ⟨m,ns m hn,fun i x v e1 e2 e3=>?_⟩
    obtain ⟨u,r,l⟩:=hl i x v e1 e2 e3
    refine ⟨u,r,?_⟩
    rcases l with l | ⟨k,c,e,z⟩
    · exact .inl l
    · exact .inr ⟨k,c,e,cellK x c e _ z⟩
  · obtain ⟨v,z⟩:=I.cell x c e
    exact ⟨v,cellK x c e v z⟩
  · obtain ⟨m,⟨o,_,_,ho,_⟩,_⟩:=I.loc
    exact free _ o (fun z=>(hch _ z).2.1 rfl) ho I.free
  · obtain ⟨v,o,ho,hd⟩:=I.cell x c e
    exact free c o (fun z=>(hch c z).2.2.1 x c e rfl) ho (I.freeC x c e)
  · obtain ⟨e,n,ne,nf,d⟩:=I.pin p hp
    have nch:p.1∉ch:=fun z=>(hch p.1 z).2.2.2 p hp rfl
    exact ⟨keep p.1 p.2 ne nf nch e n,free p.1 p.2 nch e n,ne,nf,d⟩
theorem Inv.un {t':Nat} (I:Inv X pins σ H s) (u:Un X.fs [] H H' s.heap h') (hok:HOk X.prog X.w H' h'):Inv X pins σ H' {s with heap:=h',toks:=t'}:=by
  obtain ⟨m,⟨o,es,ep,ho,r⟩,_⟩:=id I.loc
  obtain ⟨sl,hL⟩:=u.any ho I.free (by simp)
  exact I.step (g':=s.gens) (d':=s.drawn) (ch:=[]) (fun _ z=>nomatch z) (fun b o _ hb _ e n=>u.keep b o e n hb (by simp)) (fun b o _ hb _ e n=>u.slot b o e n hb (by simp)) (fun b o _ e n=>u.free b o e n (by simp)) (fun b o _ e=>u.there b o e (by simp)) u.tups u.frzs u.tbls (fun m' hm=>by
    obtain ⟨o',es',ep',ho',r'⟩:=hm
    rw [ho] at ho';cases ho'
    exact ⟨_,es',ep',hL,r'⟩) hok I.bare
theorem Inv.call {g':Array GenState} {t':Nat} {d':Drawn} {ch:List Addr} (I:Inv X pins σ H s) (u:Un (jf X.stack) ch H H' s.heap h') (hok:HOk X.prog X.w H' h') (hg:AllBare g')
    (hch:∀b∈ch,(b∈X.ex∨X.s₀.heap.objs.size≤b)∧b≠X.env.locals∧(∀x c,X.env.cells.lookup x=some c→c≠b)∧∀p∈X.pn++pins,p.1≠b):
    Inv X pins σ H' {s with heap:=h',gens:=g',drawn:=d',toks:=t'}:=by
  obtain ⟨m,⟨o,es,ep,ho,r⟩,_⟩:=id I.loc
  obtain ⟨sl,hL⟩:=u.any ho I.free fun z=>(hch _ z).2.1 rfl
  exact I.step (ch:=ch) hch (fun b o hL hb hc e n=>u.keep b o e n (fun z=>(List.mem_cons.mp (I.stkSub b z)).elim hL hb) hc) (fun b o _ _ hc e n=>u.any e n hc) (fun b o hc e n=>u.free b o e n hc) (fun b o hc e=>u.there b o e hc) u.tups u.frzs u.tbls (fun m' hm=>by
    obtain ⟨o',es',ep',ho',r'⟩:=hm
    rw [ho] at ho';cases ho'
    exact ⟨_,es',ep',hL,r'⟩) hok hg
theorem Inv.turned {t':Nat} {it:Addr} (I:Inv X pins σ H s) (k:∀b o,b≠it→s.heap.get? b=some o→h'.get? b=some o) (hn:H it=none) (hL:it≠X.env.locals)
    (h1:it∈X.ex∨X.s₀.heap.objs.size≤it) (h2:∀x c,X.env.cells.lookup x=some c→c≠it) (h3:∀p∈X.pn++pins,p.1≠it):Inv X pins σ H {s with heap:=h',toks:=t'}:=by
  have nit:∀b u,H b=some u→b≠it:=fun b u e z=>by rw [z,hn] at e;cases e
  refine I.step (g':=s.gens) (d':=s.drawn) (ch:=[it]) (fun b hb=>?_) (fun b o _ _ hc e _=>k b o (fun z=>hc (by simp [z])) e) (fun b o _ _ hc e _=>⟨o.slots,k b o (fun z=>hc (by simp [z])) e⟩) (fun _ _ _ _ n=>n)
    (fun b o hc e=>⟨o,k b o (fun z=>hc (by simp [z])) e⟩) (fun _ _ e=>e) (fun _ _ _ e=>e) (fun _ _ e=>e) (fun m hm=>?_) (fun b u e=>?_) I.bare
  · have e:b=it:=by simpa using hb
    subst e
    exact ⟨h1,hL,h2,h3⟩
  · obtain ⟨o,es,ep,ho,r⟩:=hm
    exact ⟨o,es,ep,k _ o (Ne.symm hL) ho,r⟩
  · refine (I.hok b u e).stay (fun c v hc q=>k c v ?_ q) (fun _ q=>q) fun _ _ q=>q
    rcases hc with z | z
    · rw [z];exact nit b u e
    · exact nit c _ z
theorem Inv.tok (I:Inv X pins σ H s) (t:Nat):Inv X pins σ H {s with toks:=t}:=I.un (h':=s.heap) (t':=t) Un.refl I.hok
theorem Inv.kept {t':Nat} (I:Inv X pins σ H s) (k:∀b u,s.heap.get? b=some u→h'.get? b=some u):Inv X pins σ H {s with heap:=h',toks:=t'}:=I.un (Un.kept k) (I.hok.kept k)
theorem Inv.laid {a:Addr} {o:HO} {t':Nat} (I:Inv X pins σ H s) (k:∀b u,s.heap.get? b=some u→h'.get? b=some u) (hp:s.heap.objs.size≤a) (new:ObjOk X.prog X.w (upd H a o) h' a o):
    Inv X pins σ (upd H a o) {s with heap:=h',toks:=t'}:=I.un (Un.laid k hp (I.hok.fresh hp)) (I.hok.laid k hp new)
theorem Inv.write {x e:Addr} {o:HO} {t':Nat} (I:Inv X pins σ H s) (mu:yM (H x)) (he:e=x∨H e=some (.own x)) (k:∀b u,b≠e→s.heap.get? b=some u→h'.get? b=some u) (heo:∃u,h'.get? e=some u)
    (new:ObjOk X.prog X.w (upd H x o) h' x o):Inv X pins σ (upd H x o) {s with heap:=h',toks:=t'}:=I.un (Un.write mu he k heo) (I.hok.write mu he k heo new)
theorem Inv.pins_of {pins':List (Addr×Obj)} (I:Inv X pins σ H s) (h:∀p∈pins',s.heap.get? p.1=some p.2∧H p.1=none∧p.1≠X.env.locals∧p.1∉X.fs∧∀v,p.2.data≠ .cell v):Inv X pins' σ H s:=
  ⟨I.ok,I.os,I.bare,I.base,I.loc,I.cell,I.free,I.freeC,fun p hp=>(List.mem_append.mp hp).elim (fun z=>I.pin p (List.mem_append_left _ z)) (h p),I.hok,I.len⟩
theorem jz {N:List Str} (hN:N.Nodup) {i j:Nat} {x:Str} (a:N[i]? =some x) (b:N[j]? =some x):i=j:=by
  obtain ⟨h1,e1⟩:=List.getElem?_eq_some_iff.mp a
  obtain ⟨h2,e2⟩:=List.getElem?_eq_some_iff.mp b
  exact (List.getElem_inj hN).mp (e1.trans e2.symm)
theorem pE {M:Model} {A:Around} {E:Value→Shared→Prop} {i:Nat} {x:Str} {v:V} {u:Value} {Q:Unit→Shared→Prop} (I:Inv X pins σ H s) (hN:X.N.Nodup) (hi:X.N[i]? =some x) (hx:vS X.env.scope x) (r:RelV v u)
    (h:∀s',Inv X pins (σ.set i (some v)) H s'→(∃a,Heap.SameBut a s.heap s'.heap∧(a=X.env.locals∨X.env.cells.lookup x=some a))→Q () s') (hf:X.fn x=true∨X.env.scope.names.lookup x=some .local:=by first | exact .inl rfl | exact .inr rfl | assumption):wpAny M A (storeName X.env x u) Q E s:=by
  obtain ⟨m,hn,hl⟩:=id I.loc
  have hcls:(X.env.scope.kind == .class||(X.env.scope.kind == .module&&X.env.locals != X.env.globals))=false:=by rw [I.ok.kind];rfl
  have hiσ:i < σ.length:=by rw [I.len];exact (List.getElem?_eq_some_iff.mp hi).1
  have cne:=I.cne
  have tracked:∀{a:Addr} {h':Heap},(∃o,s.heap.get? a=some o∧H a=none)→Heap.SameBut a s.heap h'→HOk X.prog X.w H h':=fun {a h'} ha hs b ob e=>by
    obtain ⟨_,_,hfree⟩:=ha
    refine (I.hok b ob e).stay (fun c w' hc q=>(hs.2 c ?_).trans q) (fun _ q=>q) fun _ _ q=>q
    rintro rfl
    rcases hc with rfl | hc
    · rw [hfree] at e;cases e
    · rw [hfree] at hc;cases hc
  rcases hx with hk | hk
  · refine wpAny_storeName_local hk hn (fun h' hn' hs=>?_) hcls
    obtain ⟨oL,_,_,hoL,_⟩:=id hn
    refine h _ ⟨I.ok,I.os,I.bare,⟨fun b o e n hb hx=>?_,fun b o e n hb hx=>?_,I.base.free,fun b o e hx=>?_,I.base.tups,I.base.frzs,I.base.tbls⟩,⟨_,hn',fun j y v' e1 e2 e3=>?_⟩,fun y c e=>?_,I.free,I.freeC,fun p hp=>?_,tracked ⟨oL,hoL,I.free⟩ hs,by simpa using I.len⟩ ⟨_,hs, .inl rfl⟩
    · exact (hs.2 b (Nat.ne_of_lt (Nat.lt_of_lt_of_le (Heap.lt_size e) I.ok.above))).trans (I.base.keep b o e n hb hx)
    · obtain ⟨sl,e1⟩:=I.base.slot b o e n hb hx
      exact ⟨sl,(hs.2 b (Nat.ne_of_lt (Nat.lt_of_lt_of_le (Heap.lt_size e) I.ok.above))).trans e1⟩
    · obtain ⟨o',e1⟩:=I.base.there b o e hx
      exact ⟨o',(hs.2 b (Nat.ne_of_lt (Nat.lt_of_lt_of_le (Heap.lt_size e) I.ok.above))).trans e1⟩
    · by_cases hj:j=i
      · subst hj
        rw [hi] at e1;cases e1
        rw [List.getElem?_set_self hiσ] at e2
        cases e2
        exact ⟨u,r, .inl ⟨hk,by simp⟩⟩
      · rw [List.getElem?_set_ne (Ne.symm hj)] at e2
        obtain ⟨u',r',q⟩:=hl j y v' e1 e2 e3
        refine ⟨u',r',?_⟩
        rcases q with ⟨k,e⟩ | ⟨k,c,e,z⟩
        · refine .inl ⟨k,?_⟩
          have:y≠x:=fun e=>hj (jz hN e1 (e▸hi))
          simp [this,e]
        · exact .inr ⟨k,c,e,z.sameBut hs (cne y c e)⟩
    · obtain ⟨w',z⟩:=I.cell y c e
      exact ⟨w',z.sameBut hs (cne y c e)⟩
    · obtain ⟨e,n,ne,nf,d⟩:=I.pin p hp
      exact ⟨(hs.2 p.1 ne).trans e,n,ne,nf,d⟩
  · have hfn:X.fn x=true:=by
      rcases hf with z | z
      · exact z
      · rw [z] at hk;cases hk
    obtain ⟨c,hc⟩:=I.ok.has x (.inl hk)
    obtain ⟨w',z⟩:=I.cell x c hc
    refine wpAny_storeName_cell I.ok.kind hk hc z (fun h' hc' hs=>?_)
    obtain ⟨oc,hoc,hocd⟩:=id z
    refine h {s with heap:=h'} ⟨I.ok,I.os,I.bare,⟨fun b o e n hb hx=>?_,fun b o e n hb hx=>?_,I.base.free,fun b o e hx=>?_,I.base.tups,I.base.frzs,I.base.tbls⟩,⟨m,hn.sameBut hs (Ne.symm (cne x c hc)),fun j y v' e1 e2 e3=>?_⟩,fun y c' e=>?_,I.free,I.freeC,fun p hp=>?_,tracked ⟨oc,hoc,I.freeC x c hc⟩ hs,by simpa using I.len⟩ ⟨c,hs, .inr hc⟩
    · exact (hs.2 b (Nat.ne_of_lt (Nat.lt_of_lt_of_le (Heap.lt_size e) (I.ok.cab x c hfn hc)))).trans (I.base.keep b o e n hb hx)
    · obtain ⟨sl,e1⟩:=I.base.slot b o e n hb hx
      exact ⟨sl,(hs.2 b (Nat.ne_of_lt (Nat.lt_of_lt_of_le (Heap.lt_size e) (I.ok.cab x c hfn hc)))).trans e1⟩
    · obtain ⟨o',e1⟩:=I.base.there b o e hx
      exact ⟨o',(hs.2 b (Nat.ne_of_lt (Nat.lt_of_lt_of_le (Heap.lt_size e) (I.ok.cab x c hfn hc)))).trans e1⟩
    · by_cases hj:j=i
      · subst hj
        rw [hi] at e1;cases e1
        rw [List.getElem?_set_self hiσ] at e2
        cases e2
        exact ⟨u,r, .inr ⟨.inl hk,c,hc,hc'⟩⟩
      · rw [List.getElem?_set_ne (Ne.symm hj)] at e2
        obtain ⟨u',r',q⟩:=hl j y v' e1 e2 e3
        refine ⟨u',r',?_⟩
        rcases q with q | ⟨k,c',e,z'⟩
        · exact .inl q
        · refine .inr ⟨k,c',e,z'.sameBut hs ?_⟩
          rintro rfl
          exact hj (jz hN e1 (I.ok.inj _ _ _ e hc▸hi))
    · by_cases hcc:c'=c
      · subst hcc;exact ⟨_,hc'⟩
      · obtain ⟨w2,z2⟩:=I.cell y c' e
        exact ⟨w2,z2.sameBut hs hcc⟩
    · obtain ⟨e,n,ne,nf,d⟩:=I.pin p hp
      refine ⟨(hs.2 p.1 ?_).trans e,n,ne,nf,d⟩
      intro q
      rw [q,hoc] at e
      have q':oc=p.2:=Option.some.inj e
      exact d w' (by rw [←q'];exact hocd)
theorem jA {M:Model} {A:Around} {E:Value→Shared→Prop} {i:Nat} {x:Str} {v:V} {u:Value} {Q:Unit→Shared→Prop} (I:Inv X pins σ H s) (hN:X.N.Nodup) (hi:X.N[i]? =some x) (hx:vS X.env.scope x) (r:RelV v u)
    (h:∀s',Inv X pins (σ.set i (some v)) H s'→Q () s') (hf:X.fn x=true∨X.env.scope.names.lookup x=some .local:=by first | exact .inl rfl | exact .inr rfl | assumption):wpAny M A (storeName X.env x u) Q E s:=
  pE I hN hi hx r (fun s' I' _=>h s' I') hf
theorem Inv.call' {s':Shared} {ch:List Addr} (I:Inv X pins σ H s) (ho:s'.os=s.os) (u:Un (jf X.stack) ch H H' s.heap s'.heap) (hok:HOk X.prog X.w H' s'.heap) (hg:AllBare s'.gens)
    (hch:∀b∈ch,(b∈X.ex∨X.s₀.heap.objs.size≤b)∧b≠X.env.locals∧(∀x c,X.env.cells.lookup x=some c→c≠b)∧∀p∈X.pn++pins,p.1≠b):Inv X pins σ H' s':=by
  obtain ⟨h',g',d',t',o'⟩:=s'
  have e:o'=s.os:=ho
  subst e
  exact I.call (g':=g') (t':=t') (d':=d') u hok hg hch
end
abbrev XK:=Value→Option Addr→Hp→Prop
abbrev St:=List (Option V)
abbrev VK:=V→Hp→Prop
abbrev TE:=St→Hp→VK→Prop
abbrev TT:=St→Hp→(Bool→Hp→Prop)→Prop
abbrev TA:=St→Hp→(List V→Hp→Prop)→Prop
structure Ends where
  nx:St→Hp→Prop
  rt:VK
  bk:St→Hp→Prop:=fun _ _=>False
  ct:St→Hp→Prop:=fun _ _=>False
abbrev TS:=Ends→St→Hp→Prop
def EP (X:Cx) (pins:List (Addr×Obj)) (σ:St) (Q:VK) (u:Value) (s':Shared):Prop:=∃v H',Inv X pins σ H' s'∧RelV v u∧Q v H'
def TP (X:Cx) (pins:List (Addr×Obj)) (σ:St) (Q:Bool→Hp→Prop) (b:Bool) (s':Shared):Prop:=∃H',Inv X pins σ H' s'∧Q b H'
def AP (X:Cx) (pins:List (Addr×Obj)) (σ:St) (Q:List V→Hp→Prop) (us:List Value) (s':Shared):Prop:=∃vs H',Inv X pins σ H' s'∧Vals vs us∧Q vs H'
def SP (X:Cx) (pins:List (Addr×Obj)) (D:Ends) (f:Flow) (s':Shared):Prop:=
  match f with
  | .next=>∃σ' H',Inv X pins σ' H' s'∧D.nx σ' H'
  | .brk=>∃σ' H',Inv X pins σ' H' s'∧D.bk σ' H'
  | .cont=>∃σ' H',Inv X pins σ' H' s'∧D.ct σ' H'
  | .ret u=>∃v σ' H',Inv X pins σ' H' s'∧RelV v u∧D.rt v H'
def PE (X:Cx) (e:Expr) (t:TE):Prop:=
  ∀(pins:List (Addr×Obj)) (s:Shared) (σ:St) (H:Hp) (Q:VK),Inv X pins σ H s→t σ H Q→wpAny (model X.prog X.w) X.A (eval e X.env) (EP X pins σ Q) X.xe s
def PT (X:Cx) (e:Expr) (t:TT):Prop:=
  ∀(pins:List (Addr×Obj)) (s:Shared) (σ:St) (H:Hp) (Q:Bool→Hp→Prop),Inv X pins σ H s→t σ H Q→wpAny (model X.prog X.w) X.A (isTrue e X.env (eval e X.env)) (TP X pins σ Q) X.xe s
def PW (X:Cx) (e:Expr) (t:TT):Prop:=
  ∀(whole:Sem Value) (pins:List (Addr×Obj)) (s:Shared) (σ:St) (H:Hp) (Q:Bool→Hp→Prop),Inv X pins σ H s→t σ H Q→wpAny (model X.prog X.w) X.A (isTrue e X.env whole) (TP X pins σ Q) X.xe s
theorem PW.pt {X:Cx} {e:Expr} {t:TT} (h:PW X e t):PT X e t:=h _
def PA (X:Cx) (es:List Expr) (t:TA):Prop:=
  ∀(pos:Pos) (pins:List (Addr×Obj)) (s:Shared) (σ:St) (H:Hp) (Q:List V→Hp→Prop),Inv X pins σ H s→t σ H Q→wpAny (model X.prog X.w) X.A (spliced (backTo pos (starEach es X.env))) (AP X pins σ Q) X.xe s
def PS (X:Cx) (st:Stmt) (t:TS):Prop:=
  ∀(pins:List (Addr×Obj)) (s:Shared) (σ:St) (H:Hp) (D:Ends),Inv X pins σ H s→t D σ H→wpAny (model X.prog X.w) X.A (exec st X.env) (SP X pins D) X.xe s
def PSs (X:Cx) (st:List Stmt) (t:TS):Prop:=
  ∀(pins:List (Addr×Obj)) (s:Shared) (σ:St) (H:Hp) (D:Ends),Inv X pins σ H s→t D σ H→wpAny (model X.prog X.w) X.A (execs st X.env) (SP X pins D) X.xe s
theorem cI {α:Type} {t:Sem α} {Q Q':α→Shared→Prop} {M:Model} {A:Around} {E:Value→Shared→Prop} {s:Shared} (h:wpAny M A t Q E s) (hQ:∀a s,Q a s→Q' a s):wpAny M A t Q' E s:=wpAny_mono h hQ fun _ _ x=>x
end L2
namespace L2
open PySem PySem.Spec PyProof.Rows
section
variable {X:Cx}
def de (i:Nat):TE:=fun σ H Q=>∃v,σ[i]? =some (some v)∧Q v H
def tC (v:V):TE:=fun _ H Q=>Q v H
theorem jB {i:Nat} {x:Str} {pos:Pos} (hN:X.N[i]? =some x) (hv:vR X.env.scope x) (hd:(x == ("__debug__":Str))=false:=by decide) (hcd:(x == ("__classdict__":Str))=false:=by decide):PE X (.Name x pos) (de i):=by
  intro pins s σ H Q I h
  obtain ⟨v,e,h⟩:=h
  obtain ⟨m,hn,hl⟩:=I.loc
  obtain ⟨u,r,l⟩:=hl i x v hN e hv
  have fin:EP X pins σ Q u s:=⟨v,H,I,r,h⟩
  rcases l with ⟨hk,hm⟩ | ⟨hk,c,hc,hcell⟩
  · exact wpAny_Name (wpAny_loadName_local I.ok.kind hk hn hm fin) hd
  · rcases hk with hk | hk
    · exact wpAny_Name (wpAny_loadName_cell I.ok.kind hk hc hcell fin) hd
    · exact wpAny_Name (wpAny_loadName_free I.ok.kind hk hc hcell fin hcd) hd
theorem iD {i j pos}:PE X (.Constant (.int i) j pos) (tC (.int i)):=fun _ _ _ H _ I h=>wpAny_Constant_int ⟨.int i,H,I.tok _,⟨_,rfl⟩,h⟩
theorem xI {b j pos}:PE X (.Constant (.bool b) j pos) (tC (.bl b)):=fun _ _ _ H _ I h=>Constant_bool ⟨.bl b,H,I,rfl,h⟩
theorem nO {x j pos}:PE X (.Constant (.str x) j pos) (tC (.str x)):=fun _ _ _ H _ I h=>Calls.Constant_str ⟨.str x,H,I.tok _,⟨_,rfl⟩,h⟩
def Gl (X:Cx) (x:Str):Prop:=X.env.kindOf x=some .globalImplicit
theorem gG {E:Value→Shared→Prop} {pins:List (Addr×Obj)} {s:Shared} {σ:St} {H:Hp} {x:Str} {u:Value} {pos:Pos} {Q:Value→Shared→Prop} (I:Inv X pins σ H s) (hg:Gl X x) (hm:X.mg x=some u) (h:Q u s)
    (hd:(x == ("__debug__":Str))=false:=by decide):wpAny (model X.prog X.w) X.A (eval (.Name x pos) X.env) Q E s:=
  Calls.Name_function_global I.ok.kind hg (Calls.loadGlobal_global (by rw [I.ok.glob];exact I.mod.glob.keeps I.bk) hm h) hd
theorem iE {E:Value→Shared→Prop} {pins:List (Addr×Obj)} {s:Shared} {σ:St} {H:Hp} {x:Str} {u:Value} {pos:Pos} {Q:Value→Shared→Prop} (I:Inv X pins σ H s) (hg:Gl X x) (hm:X.mg x=none) (hv:bootBuiltins x=some u) (h:Q u s)
    (hn:x≠"__name__":=by decide) (hd:(x == ("__debug__":Str))=false:=by decide):wpAny (model X.prog X.w) X.A (eval (.Name x pos) X.env) Q E s:=by
  obtain ⟨mb,h1,h2⟩:=I.mod.blt
  exact Calls.Name_function_global I.ok.kind hg (Calls.loadGlobal_builtin (by rw [I.ok.glob];exact I.mod.glob.keeps I.bk) hm (by rw [I.ok.blt];exact h1.keeps I.bk) ((h2 x hn).trans hv) h) hd
theorem oN {x:Str} {v:V} {u:Value} {pos:Pos} (hg:Gl X x) (hm:X.mg x=some u) (r:RelV v u) (hd:(x == ("__debug__":Str))=false:=by decide):PE X (.Name x pos) (tC v):=
  fun _ _ _ H _ I h=>gG I hg hm ⟨v,H,I,r,h⟩ hd
theorem tU {x:Str} {v:V} {u:Value} {pos:Pos} (hg:Gl X x) (hm:X.mg x=none) (hv:bootBuiltins x=some u) (r:RelV v u) (hn:x≠"__name__":=by decide) (hd:(x == ("__debug__":Str))=false:=by decide):PE X (.Name x pos) (tC v):=
  fun _ _ _ H _ I h=>iE I hg hm hv ⟨v,H,I,r,h⟩ hn hd
variable {a b:Expr} {ta tb:TE} {pos:Pos}
def tB (t:TE):TT:=fun σ H Q=>t σ H fun x H1=>∃c,x= .bl c∧Q c H1
variable {tA tB':TT} {bD:List Expr}
def Ac (t u:TT):TT:=fun σ H Q=>t σ H fun c H1=>if c=true then Q true H1 else u σ H1 Q
def y2 (t:TT):TT:=fun σ H Q=>t σ H fun c H1=>Q (!c) H1
theorem vT (ha:PT X a tA):PW X (.BoolOp .Or [a] pos) tA:=by
  intro wh pins s σ H Q I h
  refine isTrue_or (cI (ha pins s σ H Q I h) fun c s1 e=>?_)
  cases c with
  | false=>exact isTrue_or_nil e
  | true=>exact e
theorem xJ (ha:PT X a tA) (hb:PW X (.BoolOp .Or (b::bD) pos) tB'):PW X (.BoolOp .Or (a::b::bD) pos) (Ac tA tB'):=by
  intro wh pins s σ H Q I h
  refine isTrue_or (cI (ha pins s σ H _ I h) fun c s1 ⟨H1,I1,q1⟩=>?_)
  cases c with
  | true=>exact ⟨H1,I1,q1⟩
  | false=>exact hb wh pins s1 σ H1 Q I1 q1
theorem vU (ha:PT X a tA):PT X (.UnaryOp .Not a pos) (y2 tA):=by
  intro pins s σ H Q I h
  exact isTrue_not (ha pins s σ H (fun c H1=>Q (!c) H1) I h)
def xK (ta tb:TE):TE:=fun σ H Q=>ta σ H fun x H1=>∃c,x= .bl c∧if c=true then tb σ H1 Q else Q (.bl false) H1
theorem vV {op} {t:TE} (h:PE X a t):PE X (.BoolOp op [a] pos) t:=fun pins s σ H Q I hw=>BoolOp_one (h pins s σ H Q I hw)
theorem vW (ha:PE X a ta) (hb:PE X (.BoolOp .And (b::bD) pos) tb):PE X (.BoolOp .And (a::b::bD) pos) (xK ta tb):=by
  intro pins s σ H Q I h
  refine BoolOp_and (cI (ha pins s σ H _ I h) fun v s1 ⟨x,H1,I1,r1,q1⟩=>?_)
  obtain ⟨c,rfl,q1⟩:=q1
  cases r1
  refine wpAny_truthy_bool ?_
  cases c with
  | true=>exact hb pins s1 σ H1 Q I1 q1
  | false=>exact ⟨.bl false,H1,I1,rfl,q1⟩
def Ad (t:TT) (ta tb:TE):TE:=fun σ H Q=>t σ H fun c H1=>if c=true then ta σ H1 Q else tb σ H1 Q
theorem qF {c:Expr} (hc:PT X c tA) (ha:PE X a ta) (hb:PE X b tb):PE X (.IfExp c a b pos) (Ad tA ta tb):=by
  intro pins s σ H Q I h
  refine wpAny_IfExp (cI (hc pins s σ H _ I h) fun d s1 ⟨H1,I1,q1⟩=>?_)
  cases d with
  | true=>exact ha pins s1 σ H1 Q I1 q1
  | false=>exact hb pins s1 σ H1 Q I1 q1
end
end L2
namespace L2
open PySem PySem.Spec PyProof.Rows
def SqL (K:PySem.W.Frag) (H:Hp) (a:Addr) (xs:List V):Prop:=
  Rd H a (.lst xs)∨
    ∃(o:Obj) (its:Array Value) (n:Nat),K.lookup a=some o∧o.cls= .type "list"∧o.dict=none∧o.data= .seq its n∧its.size≤sizeLine∧Vals xs its.toList
def SqT (K:PySem.W.Frag) (H:Hp) (a:Addr) (xs:List V):Prop:=
  Rd H a (.tup xs)∨
    ∃(o:Obj) (its:Array Value) (n:Nat),K.lookup a=some o∧o.cls= .type "tuple"∧o.data= .seq its n∧its.size≤sizeLine∧Vals xs its.toList
def y3:Value→Option V
  | .none=>some .non
  | .bool b=>some (.bl b)
  | .int i _=>some (.int i)
  | .str x _=>some (.str x)
  | .bytes b _=>some (.byt b)
  | .float b _=>some (.flt b)
  | .ref a=>some (.ref a)
  | .type n=>some (.ty n)
  | _=>none
theorem RelV.abs {x:V} {u:Value} (r:RelV x u):y3 u=some x:=by
  cases x with
  | non=>cases r;rfl
  | bl _=>cases r;rfl
  | int _=>obtain ⟨t,rfl⟩:=r;rfl
  | str _=>obtain ⟨t,rfl⟩:=r;rfl
  | byt _=>obtain ⟨t,rfl⟩:=r;rfl
  | flt _=>obtain ⟨t,rfl⟩:=r;rfl
  | ref _=>cases r;rfl
  | ty _=>cases r;rfl
theorem RelV.inj {x y:V} {u:Value} (r:RelV x u) (q:RelV y u):x=y:=Option.some.inj (r.abs.symm.trans q.abs)
theorem Vals.inj {xs ys:List V} {us:List Value} (h:Vals xs us) (k:Vals ys us):xs=ys:=by
  induction h generalizing ys with
  | nil=>cases k;rfl
  | cons r _ ih=>cases k with | cons r' t'=>rw [r.inj r',ih t']
section
variable {X:Cx} {pins:List (Addr×Obj)} {σ:St} {H:Hp} {s:Shared} {a:Addr} {xs ys:List V}
theorem SqL.of {K:PySem.W.Frag} (h:H a=some (.lst xs)):SqL K H a xs:= .inl (.inl h)
theorem SqT.of {K:PySem.W.Frag} (h:H a=some (.tup xs)):SqT K H a xs:= .inl (.inl h)
theorem Inv.list (I:Inv X pins σ H s) (h:SqL X.K H a xs):∃its:List Value,Vals xs its∧PlainL s.heap a its.toArray∧xs.length≤sizeLine:=by
  rcases h with h | ⟨o,its,n,hk,hc,hd,hs,hz,r⟩
  · obtain ⟨z,its,n,r,e⟩:=h.ok I.hok
    exact ⟨its,r,⟨_,n,e,rfl,rfl,rfl⟩,z⟩
  · refine ⟨its.toList,r,⟨o,n,I.kIn a o hk,hc,hd,by simpa using hs⟩,?_⟩
    have e:=r.length
    simp only [Array.length_toList] at e
    omega
theorem Inv.tuple (I:Inv X pins σ H s) (h:SqT X.K H a xs):∃its:List Value,Vals xs its∧IsTup s.heap a its.toArray∧xs.length≤sizeLine:=by
  rcases h with h | ⟨o,its,n,hk,hc,hs,hz,r⟩
  · obtain ⟨z,its,r,p⟩:=h.ok I.hok
    exact ⟨its,r,p,z⟩
  · refine ⟨its.toList,r,⟨o,I.kIn a o hk,hc,n,by simpa using hs⟩,?_⟩
    have e:=r.length
    simp only [Array.length_toList] at e
    omega
theorem Inv.list_inj (I:Inv X pins σ H s) (h:SqL X.K H a xs) (h':SqL X.K H a ys):xs=ys:=by
  obtain ⟨its,r,⟨o,n,e,_,_,d⟩,_⟩:=I.list h
  obtain ⟨its',r',⟨o',n',e',_,_,d'⟩,_⟩:=I.list h'
  rw [e] at e';cases e'
  rw [d] at d'
  injection d' with d1 _
  have:its=its':=by simpa using congrArg Array.toList d1
  subst this
  exact r.inj r'
theorem Inv.tuple_inj (I:Inv X pins σ H s) (h:SqT X.K H a xs) (h':SqT X.K H a ys):xs=ys:=by
  obtain ⟨its,r,⟨o,e,_,n,d⟩,_⟩:=I.tuple h
  obtain ⟨its',r',⟨o',e',_,n',d'⟩,_⟩:=I.tuple h'
  rw [e] at e';cases e'
  rw [d] at d'
  injection d' with d1 _
  have:its=its':=by simpa using congrArg Array.toList d1
  subst this
  exact r.inj r'
end
abbrev Cx.wish (X:Cx) (E:Value→Shared→Prop):Cx:={X with xe:=E}
abbrev Cx.nox (X:Cx):Cx:=X.wish fun _ _=>False
theorem Cx.Ok.wish {X:Cx} (ok:X.Ok) (E:Value→Shared→Prop):(X.wish E).Ok:=
  ⟨ok.mod,ok.kind,ok.glob,ok.blt,ok.above,ok.inj,ok.has,ok.cab,ok.hd,ok.frames,ok.stk,ok.exf,ok.bs,ok.bsz,ok.noex,ok.exfs,ok.funs,ok.frf,ok.tab⟩
theorem Cx.Ok.unwish {X:Cx} {E:Value→Shared→Prop} (ok:(X.wish E).Ok):X.Ok:=
  ⟨ok.mod,ok.kind,ok.glob,ok.blt,ok.above,ok.inj,ok.has,ok.cab,ok.hd,ok.frames,ok.stk,ok.exf,ok.bs,ok.bsz,ok.noex,ok.exfs,ok.funs,ok.frf,ok.tab⟩
section
variable {X:Cx} {pins:List (Addr×Obj)} {σ:St} {H:Hp} {s:Shared} {E:Value→Shared→Prop}
theorem Inv.wish (I:Inv X pins σ H s) (E:Value→Shared→Prop):Inv (X.wish E) pins σ H s:=⟨I.ok.wish E,I.os,I.bare,I.base,I.loc,I.cell,I.free,I.freeC,I.pin,I.hok,I.len⟩
theorem Inv.unwish (I:Inv (X.wish E) pins σ H s):Inv X pins σ H s:=⟨I.ok.unwish,I.os,I.bare,I.base,I.loc,I.cell,I.free,I.freeC,I.pin,I.hok,I.len⟩
theorem SP.unwish {D:Ends} {f:Flow} {s':Shared} (h:SP (X.wish E) pins D f s'):SP X pins D f s':=by
  cases f with
  | next=>obtain ⟨σ',H',I,q⟩:=h;exact ⟨σ',H',I.unwish,q⟩
  | brk=>obtain ⟨σ',H',I,q⟩:=h;exact ⟨σ',H',I.unwish,q⟩
  | cont=>obtain ⟨σ',H',I,q⟩:=h;exact ⟨σ',H',I.unwish,q⟩
  | ret u=>obtain ⟨v,σ',H',I,r,q⟩:=h;exact ⟨v,σ',H',I.unwish,r,q⟩
theorem PE.nox {e:Expr} {t:TE} (h:PE X.nox e t):PE X e t:=fun pins s σ H Q I hw=>
  wpAny_mono (h pins s σ H Q (I.wish _) hw) (fun _ _ ⟨v,H',I',r,q⟩=>⟨v,H',I'.unwish,r,q⟩) fun _ _ z=>False.elim z
theorem PT.nox {e:Expr} {t:TT} (h:PT X.nox e t):PT X e t:=fun pins s σ H Q I hw=>
  wpAny_mono (h pins s σ H Q (I.wish _) hw) (fun _ _ ⟨H',I',q⟩=>⟨H',I'.unwish,q⟩) fun _ _ z=>False.elim z
theorem PSs.nox {st:List Stmt} {t:TS} (h:PSs X.nox st t):PSs X st t:=fun pins s σ H D I hw=>
  wpAny_mono (h pins s σ H D (I.wish _) hw) (fun _ _ q=>q.unwish) fun _ _ z=>False.elim z
end
section
variable {X:Cx} {st:Stmt} {bD:List Stmt} {t u:TS} {e:Expr} {te:TE} {pos:Pos}
def xL:TS:=fun D σ H=>D.nx σ H
def ls (t u:TS):TS:=fun D σ H=>t {D with nx:=u D} σ H
theorem tV:PSs X [] xL:=fun _ _ σ H _ I h=>wpAny_execs_nil ⟨σ,H,I,h⟩
theorem cD (h1:PS X st t) (h2:PSs X bD u):PSs X (st::bD) (ls t u):=by
  intro pins s σ H D I h
  refine wpAny_execs_cons (cI (h1 pins s σ H {D with nx:=u D} I h) fun f s1 q=>?_)
  cases f with
  | next=>
    obtain ⟨σ',H',I',q⟩:=q
    exact h2 pins s1 σ' H' D I' q
  | ret v=>exact q
  | brk=>exact q
  | cont=>exact q
theorem gH (h1:PS X st t):PSs X [st] t:=by
  intro pins s σ H D I h
  refine wpAny_execs_cons (cI (h1 pins s σ H D I h) fun f s1 q=>?_)
  cases f with
  | next=>exact wpAny_execs_nil q
  | ret v=>exact q
  | brk=>exact q
  | cont=>exact q
theorem Inv.quiet {pins:List (Addr×Obj)} {σ:St} {H:Hp} {s:Shared} (I:Inv X pins σ H s):interactive X.env=false:=by simp [interactive,I.ok.kind]
def xM (te:TE):TS:=fun D σ H=>te σ H fun _ H1=>D.nx σ H1
theorem tW (he:PE X e te) (hs:swapsWith e none pos.line X.env=pure false:=by rfl):PS X (.Expr e pos) (xM te):=by
  intro pins s σ H D I h
  exact wpAny_Expr_any (cI (he pins s σ H _ I h) fun v s1 ⟨x,H1,I1,r1,q1⟩=>⟨σ,H1,I1,q1⟩) I.quiet hs
def y4 (te:TE):TS:=fun D σ H=>te σ H D.rt
theorem qG (he:PE X e te):PS X (.Return (some e) pos) (y4 te):=by
  intro pins s σ H D I h
  exact wpAny_Return_some (cI (he pins s σ H _ I h) fun v s1 ⟨x,H1,I1,r1,q1⟩=>⟨x,σ,H1,I1,r1,q1⟩)
def y7 (c:TT) (t u:TS):TS:=fun D σ H=>c σ H fun b H1=>if b=true then t D σ H1 else u D σ H1
theorem xN {c:Expr} {a b:List Stmt} {tc:TT} (hc:PT X c tc) (ha:PSs X a t) (hb:PSs X b u):PS X (.If c a b pos) (y7 tc t u):=by
  intro pins s σ H D I h
  refine wpAny_If (cI (hc pins s σ H _ I h) fun d s1 ⟨H1,I1,q1⟩=>?_)
  cases d with
  | true=>exact ha pins s1 σ H1 D I1 q1
  | false=>exact hb pins s1 σ H1 D I1 q1
def vX:TS:=fun _ _ _=>False
theorem qH:PS X st vX:=fun _ _ _ _ _ _ h=>h.elim
end
abbrev TG:=V→St→Hp→(St→Hp→Prop)→Prop
abbrev tX:=List V→St→Hp→(St→Hp→Prop)→Prop
def PG (X:Cx) (target:Expr) (t:TG):Prop:=
  ∀(pins:List (Addr×Obj)) (s:Shared) (σ:St) (H:Hp) (v:V) (u:Value) (Q:St→Hp→Prop),Inv X pins σ H s→RelV v u→t v σ H Q→
    wpAny (model X.prog X.w) X.A (assign target X.env u) (fun _ s'=>∃σ' H',Inv X pins σ' H' s'∧Q σ' H') X.xe s
def vY (X:Cx) (ts:List Expr) (t:tX):Prop:=
  ∀(pins:List (Addr×Obj)) (s:Shared) (σ:St) (H:Hp) (vs:List V) (us:List Value) (Q:St→Hp→Prop),Inv X pins σ H s→Vals vs us→t vs σ H Q→
    wpAny (model X.prog X.w) X.A (assignInOrder ((assignEach ts X.env).map (·.2)) us) (fun _ s'=>∃σ' H',Inv X pins σ' H' s'∧Q σ' H') X.xe s
abbrev vZ:=V→V→V→Hp→(Hp→Prop)→Prop
def xO (X:Cx) (t:vZ):Prop:=
  ∀(pins:List (Addr×Obj)) (s:Shared) (σ:St) (H:Hp) (o i v:V) (ov iv u:Value) (Q:Hp→Prop),Inv X pins σ H s→RelV o ov→RelV i iv→RelV v u→t o i v H Q→
    wpAny (model X.prog X.w) X.A (setItem ov iv u) (fun _ s'=>∃H',Inv X pins σ H' s'∧Q H') X.xe s
section
variable {X:Cx} {pos:Pos}
def kF (i:Nat):TG:=fun v σ H Q=>Q (σ.set i (some v)) H
theorem lv {i:Nat} {x:Str} (hN:X.N.Nodup) (hi:X.N[i]? =some x) (hx:vS X.env.scope x) (hf:X.fn x=true∨X.env.scope.names.lookup x=some .local:=by first | exact .inl rfl | exact .inr rfl | assumption):PG X (.Name x pos) (kF i):=by
  intro pins s σ H v u Q I r h
  exact wpAny_assign_Name (jA I hN hi hx r (fun s' I'=>⟨_,H,I',h⟩) hf)
def y8:tX:=fun vs σ H Q=>vs=[]∧Q σ H
def xP (t:TG) (u:tX):tX:=fun vs σ H Q=>∃v r,vs=v::r∧t v σ H fun σ' H'=>u r σ' H' Q
theorem tY:vY X [] y8:=by
  intro pins s σ H vs us Q I r h
  obtain ⟨e,h⟩:=h
  subst e
  cases r
  exact assignInOrder_nil ⟨σ,H,I,h⟩
theorem qI {e:Expr} {es:List Expr} {t:TG} {u:tX} (h1:PG X e t) (h2:vY X es u)
    (hs:(assignEach (e::es) X.env).map (·.2)=assign e X.env::(assignEach es X.env).map (·.2):=by rfl):vY X (e::es) (xP t u):=by
  intro pins s σ H vs us Q I r h
  obtain ⟨v,vr,e1,h⟩:=h
  subst e1
  cases r with
  | cons r rr=>
    rw [hs]
    refine assignInOrder_cons (cI (h1 pins s σ H _ _ _ I r h) fun _ s1 ⟨σ1,H1,I1,q1⟩=>?_)
    exact h2 pins s1 σ1 H1 _ _ Q I1 rr q1
def y9 (K:PySem.W.Frag) (n:Nat) (t:tX):TG:=fun v σ H Q=>∃a xs,v= .ref a∧SqT K H a xs∧xs.length=n∧t xs σ H Q
theorem v0 {es:List Expr} {k:Nat} {t:tX} {n:Nat} (hc:X.calm=true) (h:vY X es t)
    (hn:(assignEach es X.env).length=n:=by rfl) (hst:(assignEach es X.env).findIdx? (·.1)=none:=by rfl):PG X (.Tuple es k pos) (y9 X.K n t):=by
  intro pins s σ H v u Q I r hw
  obtain ⟨a,xs,e1,hq,hl,hw⟩:=hw
  subst e1
  cases r
  obtain ⟨its,rv,ht,hz⟩:=I.tuple hq
  refine assign_Tuple_tuple (I.ok.hd hc) ht (by simp [hn,←hl,rv.length]) hst fun h' hx=>?_
  have I1:Inv X pins σ H {s with heap:=h'}:=I.kept (t':=s.toks) fun b o e=>hx b o (Nat.ne_of_lt (Heap.lt_size e)) e
  exact h pins _ σ H xs _ Q I1 (by simpa using rv) hw
def y_ (to ti:TE) (t:vZ):TG:=fun v σ H Q=>to σ H fun o H1=>ti σ H1 fun i H2=>t o i v H2 fun H3=>Q σ H3
theorem v4 {o i:Expr} {to ti:TE} {t:vZ} (ho:PE X o to) (hi:PE X i ti) (hs:xO X t)
    (ha:∀v,assign (.Subscript o i pos) X.env v=(do
      let ov ←holding [v] (eval o X.env)
      let iv ←holding [v,ov] (eval i X.env)
      standAt pos
      holding [v,ov,iv] (setItem ov iv v)
      release [v,ov,iv] []):=by intro _;rfl):PG X (.Subscript o i pos) (y_ to ti t):=by
  intro pins s σ H v u Q I r h
  rw [ha]
  refine wpAny_bind (wpAny_holding (cI (ho pins s σ H _ I h) fun ov s1 ⟨x,H1,I1,r1,q1⟩=>?_))
  refine wpAny_bind (wpAny_holding (cI (hi pins s1 σ H1 _ I1 q1) fun iv s2 ⟨y,H2,I2,r2,q2⟩=>?_))
  refine wpAny_bind (wpAny_standAt (wpAny_bind (wpAny_holding (cI (hs pins s2 σ H2 x y v ov iv u _ I2 r1 r2 r q2) fun _ s3 ⟨H3,I3,q3⟩=>?_))))
  exact wpAny_release ⟨σ,H3,I3,q3⟩
def v5 (te:TE) (g:TG):TS:=fun D σ H=>te σ H fun x H1=>g x σ H1 D.nx
theorem v6 {tg e:Expr} {te:TE} {g:TG} (he:PE X e te) (hg:PG X tg g) (hs:swapsWithSole [tg] e pos.line X.env=pure false:=by rfl) (hw:swappedStores [tg] e X.env=pure none:=by rfl)
    (h1:(assignEach [tg] X.env).map (·.2)=[assign tg X.env]:=by rfl):PS X (.Assign [tg] e pos) (v5 te g):=by
  intro pins s σ H D I h
  refine wpAny_Assign_stores (cI (he pins s σ H _ I h) fun v s1 ⟨x,H1,I1,r1,q1⟩=>?_) hs hw
  rw [h1]
  exact cI (hg pins s1 σ H1 x v _ I1 r1 q1) fun _ s2 q=>q
theorem qJ {i:Nat} {x:Str} {e:Expr} {te:TE} {pos':Pos} (hN:X.N.Nodup) (hi:X.N[i]? =some x) (hx:vS X.env.scope x) (he:PE X e te) (hs:swapsWith e (some (.Name x pos')) pos.line X.env=pure false:=by rfl) (hf:X.fn x=true∨X.env.scope.names.lookup x=some .local:=by first | exact .inl rfl | exact .inr rfl | assumption):
    PS X (.Assign [.Name x pos'] e pos) (v5 te (kF i)):=by
  intro pins s σ H D I h
  refine wpAny_Assign_Name (cI (he pins s σ H _ I h) fun v s1 ⟨y,H1,I1,r1,q1⟩=>?_) hs
  exact jA I1 hN hi hx r1 (fun s2 I2=>⟨_,H1,I2,q1⟩) hf
end
structure It where
  go:Nat→Hp→Prop
  yld:Nat→Hp→V→Hp→Prop
  stop:Nat→Hp→Prop
def ka (X:Cx) (pins:List (Addr×Obj)) (H:Hp) (b:Addr):Prop:=
  H b=none∧b≠X.env.locals∧b∉X.fs∧(b∈X.ex∨X.s₀.heap.objs.size≤b)∧(∀x c,X.env.cells.lookup x=some c→c≠b)∧∀p∈X.pn++pins,p.1≠b
theorem Inv.fpOk {X:Cx} {pins:List (Addr×Obj)} {σ:St} {H H':Hp} {s:Shared} {b:Addr} (I:Inv X pins σ H s) (hb:s.heap.objs.size≤b) (hn:H' b=none):ka X pins H' b:=by
  refine ⟨hn,Nat.ne_of_gt (Nat.lt_of_lt_of_le I.lt hb),I.nofs hb, .inr (Nat.le_trans I.sz hb),fun x c e z=>?_,fun p hp z=>?_⟩
  · obtain ⟨v,q⟩:=I.cell x c e
    exact absurd (Nat.lt_of_lt_of_le q.lt (by rw [z];exact hb)) (Nat.lt_irrefl _)
  · exact absurd (Nat.lt_of_lt_of_le (Heap.lt_size (I.pin p hp).1) (by rw [z];exact hb)) (Nat.lt_irrefl _)
structure Turn (P:Program) (w:World) (K:PySem.W.Frag) (tg:Expr) (J:It) (fp:List Addr) (it:Addr) (tn:Nat→Heap→Prop):Prop where
  mem:it∈fp
  obj:∀i h,tn i h→∀b∈fp,∃o,h.get? b=some o∧∀v,o.data≠ .cell v
  keep:∀i h h',tn i h→(∀b∈fp,∀o,h.get? b=some o→h'.get? b=some o)→tn i h'
  item:∀(X:Cx),X.prog=P→X.w=w→X.K=K→X.calm=true→∀(i:Nat) (pins:List (Addr×Obj)) (s:Shared) (σ:St) (H:Hp) (E:Value→Shared→Prop),Inv X pins σ H s→(∀b∈fp,ka X pins H b)→tn i s.heap→J.go i H→
    wpAny (model P w) X.A (pyNext (.ref it)) (fun r s1=>∃u,r=some u∧
      wpAny (model P w) X.A (letOwnedTupleGo tg (.ref it) u) (fun _ s2=>∃x H',Inv X pins σ H' s2∧RelV x u∧J.yld i H x H'∧tn (i+1) s2.heap∧∀b∈fp,H' b=none) E s1) E s
  done:∀(X:Cx),X.prog=P→X.w=w→X.K=K→X.calm=true→∀(i:Nat) (pins:List (Addr×Obj)) (s:Shared) (σ:St) (H:Hp) (E:Value→Shared→Prop),Inv X pins σ H s→(∀b∈fp,ka X pins H b)→tn i s.heap→J.stop i H→
    wpAny (model P w) X.A (pyNext (.ref it)) (fun r s1=>r=none∧Inv X pins σ H s1) E s
  self:∀(A:Around) (i:Nat) (s:Shared) (Q:Value→Shared→Prop) (E:Value→Shared→Prop),tn i s.heap→Q (.ref it) s→wpAny (model P w) A (pyIter (.ref it)) Q E s
abbrev TI:=St→Hp→(It→Hp→Prop)→Prop
def zO (X:Cx) (pins:List (Addr×Obj)) (σ:St) (tg:Expr) (R:It→Hp→Prop) (itv:Value) (s2:Shared):Prop:=
  ∃(it:Addr) (fp:List Addr) (tn:Nat→Heap→Prop) (J:It) (H':Hp),itv= .ref it∧Inv X pins σ H' s2∧Turn X.prog X.w X.K tg J fp it tn∧tn 0 s2.heap∧(∀b∈fp,ka X pins H' b)∧R J H'
def PI (X:Cx) (tg iter:Expr) (wi:TI):Prop:=
  ∀(pins:List (Addr×Obj)) (s:Shared) (σ:St) (H:Hp) (R:It→Hp→Prop),Inv X pins σ H s→wi σ H R→
    wpAny (model X.prog X.w) X.A (eval iter X.env) (fun v s1=>wpAny (model X.prog X.w) X.A (pyIter v) (zO X pins σ tg R) X.xe s1) X.xe s
theorem mG {M:Model} {A:Around} {E:Value→Shared→Prop} {s:Shared} {tg:Expr} {it:Addr} {u:Value} {o:Obj} {n:String} {vs:Array Value} {Q:Unit→Shared→Prop} (ho:s.heap.get? it=some o) (hc:o.cls= .type n) (hd:o.data= .fields vs)
    (hn:["enumerate","zip","dict_itemiterator","dict_reverseitemiterator","odict_iterator","itertools.zip_longest","itertools.pairwise"].contains n=false) (hQ:Q () s):wpAny M A (letOwnedTupleGo tg (.ref it) u) Q E s:=by
  unfold letOwnedTupleGo
  cases tg <;> first
    | exact wpAny_pure hQ
    | (cases u <;> first
        | exact wpAny_pure hQ
        | (refine wpAny_bind (wpAny_load ho ?_)
           rw [hc,hd]
           show wpAny M A (if (["enumerate","zip","dict_itemiterator","dict_reverseitemiterator","odict_iterator","itertools.zip_longest","itertools.pairwise"].contains n&&vs[0]? == some (rawInt _))=true then _ else _) Q E s
           rw [if_neg (by intro h;rw [hn,Bool.false_and] at h;cases h)]
           exact wpAny_pure hQ))
def xB (K:PySem.W.Frag) (a:Addr):It:=
  ⟨fun i H=>∃xs x,SqL K H a xs∧xs[i]? =some x,fun i H x H'=>H'=H∧∀xs,SqL K H a xs→xs[i]? =some x,fun i H=>∃xs,SqL K H a xs∧xs.length≤i⟩
def za (K:PySem.W.Frag) (a:Addr):It:=
  ⟨fun i H=>∃xs x,SqT K H a xs∧xs[i]? =some x,fun i H x H'=>H'=H∧∀xs,SqT K H a xs→xs[i]? =some x,fun i H=>∃xs,SqT K H a xs∧xs.length≤i⟩
def yO (lo:Int) (n:Nat):It:=⟨fun i _=>i < n,fun i H x H'=>H'=H∧x= .int (lo+i),fun i _=>n≤i⟩
theorem pF {P:Program} {w:World} {K:PySem.W.Frag} {tg:Expr} (a it:Addr):Turn P w K tg (xB K a) [it] it (fun i h=>h.IsListIter it a i) where
  mem:=by simp
  obj:=fun i h st b hb=>by
    have e:b=it:=by simpa using hb
    subst e
    obtain ⟨o,e,c,d⟩:=st
    exact ⟨o,e,fun v z=>by rw [d] at z;cases z⟩
  keep:=fun i h h' st k=>st.at fun o e=>k it (by simp) o e
  item:=by
    intro X hP hw hK hc i pins s σ H E I hf st hg
    subst hP hw hK
    obtain ⟨xs,x,hq,hx⟩:=hg
    obtain ⟨its,rv,p,hz⟩:=I.list hq
    obtain ⟨u,hu,ru⟩:=rv.get hx
    obtain ⟨f0,f1,f2,f3,f4,f5⟩:=hf it (by simp)
    refine wpAny_pyNext_list_item st p.isList (x:=u) (by simpa using hu) fun h' st' sb=>?_
    have I1:Inv X pins σ H {s with heap:=h'}:=I.turned (t':=s.toks) (fun b o hb e=>(sb.2 b hb).trans e) f0 f1 f3 f4 f5
    obtain ⟨o,e,c,d⟩:=id st'
    exact ⟨u,rfl,mG (s:={s with heap:=h'}) e c d (by decide) ⟨x,H,I1,ru,⟨rfl,fun ys hy=>by rw [I.list_inj hy hq];exact hx⟩,st',fun b hb=>(hf b hb).1⟩⟩
  done:=by
    intro X hP hw hK hc i pins s σ H E I hf st hg
    subst hP hw hK
    obtain ⟨xs,hq,hx⟩:=hg
    obtain ⟨its,rv,p,hz⟩:=I.list hq
    obtain ⟨f0,f1,f2,f3,f4,f5⟩:=hf it (by simp)
    have hl:=rv.length
    exact wpAny_pyNext_list_end (I.ok.hd hc) st p.isList (by simp;omega) fun h' eb=>⟨rfl,I.turned (t':=s.toks) (fun b o hb e=>eb b o hb e) f0 f1 f3 f4 f5⟩
  self:=fun _ _ _ _ _ st h=>wpAny_pyIter_listiter st h
theorem nP {P:Program} {w:World} {K:PySem.W.Frag} {tg:Expr} (a it:Addr):Turn P w K tg (za K a) [it] it (fun i h=>h.IsTupleIter it a i) where
  mem:=by simp
  obj:=fun i h st b hb=>by
    have e:b=it:=by simpa using hb
    subst e
    obtain ⟨o,e,c,d⟩:=st
    exact ⟨o,e,fun v z=>by rw [d] at z;cases z⟩
  keep:=fun i h h' st k=>st.at fun o e=>k it (by simp) o e
  item:=by
    intro X hP hw hK hc i pins s σ H E I hf st hg
    subst hP hw hK
    obtain ⟨xs,x,hq,hx⟩:=hg
    obtain ⟨its,rv,p,hz⟩:=I.tuple hq
    obtain ⟨u,hu,ru⟩:=rv.get hx
    obtain ⟨f0,f1,f2,f3,f4,f5⟩:=hf it (by simp)
    refine wpAny_pyNext_tuple_item st (show s.heap.IsTuple a its.toArray from p) (x:=u) (by simpa using hu) fun h' st' sb=>?_
    have I1:Inv X pins σ H {s with heap:=h'}:=I.turned (t':=s.toks) (fun b o hb e=>(sb.2 b hb).trans e) f0 f1 f3 f4 f5
    obtain ⟨o,e,c,d⟩:=id st'
    exact ⟨u,rfl,mG (s:={s with heap:=h'}) e c d (by decide) ⟨x,H,I1,ru,⟨rfl,fun ys hy=>by rw [I.tuple_inj hy hq];exact hx⟩,st',fun b hb=>(hf b hb).1⟩⟩
  done:=by
    intro X hP hw hK hc i pins s σ H E I hf st hg
    subst hP hw hK
    obtain ⟨xs,hq,hx⟩:=hg
    obtain ⟨its,rv,p,hz⟩:=I.tuple hq
    obtain ⟨f0,f1,f2,f3,f4,f5⟩:=hf it (by simp)
    have hl:=rv.length
    exact wpAny_pyNext_tuple_end (I.ok.hd hc) st (show s.heap.IsTuple a its.toArray from p) (by simp;omega) fun h' eb=>⟨rfl,I.turned (t':=s.toks) (fun b o hb e=>eb b o hb e) f0 f1 f3 f4 f5⟩
  self:=fun _ _ _ _ _ st h=>wpAny_pyIter_tupleiter st h
theorem nQ {P:Program} {w:World} {K:PySem.W.Frag} {tg:Expr} (it:Addr) (lo:Int) (n:Nat):Turn P w K tg (yO lo n) [it] it (fun i h=>IsRangeIter h it (lo+(i:Nat)*1) ((n:Int) - (i:Nat)) 1) where
  mem:=by simp
  obj:=fun i h st b hb=>by
    have e:b=it:=by simpa using hb
    subst e
    exact ⟨_,st,fun v z=>by
      have z':Data.fields _=Data.cell v:=z
      cases z'⟩
  keep:=fun i h h' st k=>k it (by simp) _ st
  item:=by
    intro X hP hw hK hc i pins s σ H E I hf st hg
    subst hP hw hK
    obtain ⟨f0,f1,f2,f3,f4,f5⟩:=hf it (by simp)
    have W:=Walks.range (prog:=X.prog) (w:=X.w) (I.ok.hd hc) it lo 1 n
    refine W.item i s _ _ hg st fun v h' tk hv st' kk=>?_
    obtain ⟨t,rfl⟩:=hv
    have I1:Inv X pins σ H {s with heap:=h',toks:=tk}:=I.turned (fun b o hb e=>kk b o (by simpa using hb) e) f0 f1 f3 f4 f5
    refine ⟨_,rfl,mG (s:={s with heap:=h',toks:=tk}) (n:="range_iterator") st' rfl rfl (by decide) ⟨.int (lo+i),H,I1,⟨t,?_⟩,⟨rfl,rfl⟩,st',fun b hb=>(hf b hb).1⟩⟩
    rw [Int.mul_one]
  done:=by
    intro X hP hw hK hc i pins s σ H E I hf st hg
    subst hP hw hK
    obtain ⟨f0,f1,f2,f3,f4,f5⟩:=hf it (by simp)
    exact wpAny_pyNext_range_end (I.ok.hd hc) st (by have:n≤i:=hg;omega) fun h' eb=>⟨rfl,I.turned (t':=s.toks) (fun b o hb e=>eb b o hb e) f0 f1 f3 f4 f5⟩
  self:=fun _ _ _ _ _ st h=>wpAny_pyIter_rangeiter st h
end L2
namespace L2
open PySem PySem.Spec PyProof.Rows
section
variable {X:Cx} {tg:Expr}
def vj (K:PySem.W.Frag) (tl:TE):TI:=fun σ H R=>tl σ H fun x H1=>∃a,x= .ref a∧(∃xs,SqL K H1 a xs)∧R (xB K a) H1
def zb (K:PySem.W.Frag) (tl:TE):TI:=fun σ H R=>tl σ H fun x H1=>∃a,x= .ref a∧(∃xs,SqT K H1 a xs)∧R (za K a) H1
theorem oO {l:Expr} {tl:TE} (hl:PE X l tl):PI X tg l (vj X.K tl):=by
  intro pins s σ H R I h
  refine cI (hl pins s σ H _ I h) fun v s1 ⟨x,H1,I1,r1,q1⟩=>?_
  obtain ⟨a,e,⟨xs,hq⟩,q⟩:=q1
  subst e
  cases r1
  obtain ⟨its,rv,p,hz⟩:=I1.list hq
  refine wpAny_pyIter_list p.isList ?_
  refine ⟨s1.heap.objs.size,[s1.heap.objs.size],_,_,H1,rfl,I1.kept (t':=s1.toks) fun b o e=>Heap.get?_push_of_some _ e,pF a _,⟨_,Heap.get?_push_size _ rfl,rfl,rfl⟩,fun b hb=>?_,q⟩
  have e:b=s1.heap.objs.size:=by simpa using hb
  subst e
  exact I1.fpOk (Nat.le_refl _) (I1.hok.fresh (Nat.le_refl _))
theorem v7 {l:Expr} {tl:TE} (hl:PE X l tl):PI X tg l (zb X.K tl):=by
  intro pins s σ H R I h
  refine cI (hl pins s σ H _ I h) fun v s1 ⟨x,H1,I1,r1,q1⟩=>?_
  obtain ⟨a,e,⟨xs,hq⟩,q⟩:=q1
  subst e
  cases r1
  obtain ⟨its,rv,p,hz⟩:=I1.tuple hq
  refine wpAny_pyIter_tuple (show s1.heap.IsTuple a its.toArray from p) ?_
  refine ⟨s1.heap.objs.size,[s1.heap.objs.size],_,_,H1,rfl,I1.kept (t':=s1.toks) fun b o e=>Heap.get?_push_of_some _ e,nP a _,⟨_,Heap.get?_push_size _ rfl,rfl,rfl⟩,fun b hb=>?_,q⟩
  have e:b=s1.heap.objs.size:=by simpa using hb
  subst e
  exact I1.fpOk (Nat.le_refl _) (I1.hok.fresh (Nat.le_refl _))
theorem qK {pins:List (Addr×Obj)} {σ:St} {H:Hp} {s:Shared} {R:It→Hp→Prop} {E:Value→Shared→Prop} {lo hi:Int} {t u v:Tok} {tk:Nat} (I:Inv X pins σ H s) (h1: -(2 ^ 62)≤lo) (h2:lo < 2 ^ 62) (h3: -(2 ^ 62)≤hi) (h4:hi < 2 ^ 62)
    (q:R (yO lo (hi - lo).toNat) H):wpAny (model X.prog X.w) X.A (pyIter (.ref s.heap.objs.size)) (zO X pins σ tg R) E {s with heap:=s.heap.push {cls:= .type "range",data:= .fields #[.int lo t, .int hi u, .int 1 v]},toks:=tk}:=by
  refine wpAny_pyIter_range (IsRange.new ..) (small_one h1 h2 h3 h4) ?_
  have I1:Inv X pins σ H {s with heap:=s.heap.push {cls:= .type "range",data:= .fields #[.int lo t, .int hi u, .int 1 v]},toks:=tk}:=I.kept fun b o e=>Heap.get?_push_of_some _ e
  refine ⟨(s.heap.push {cls:= .type "range",data:= .fields #[.int lo t, .int hi u, .int 1 v]}).objs.size,[(s.heap.push {cls:= .type "range",data:= .fields #[.int lo t, .int hi u, .int 1 v]}).objs.size],_,_,H,rfl,
    I1.kept (t':=tk) fun b o e=>Heap.get?_push_of_some _ e,nQ _ lo (hi - lo).toNat,?_,fun b hb=>?_,q⟩
  · have e1:lo+((0:Nat):Int)*1=lo:=by simp
    have e2:(((hi - lo).toNat:Nat):Int) - ((0:Nat):Int)=Builtin.Range.rangeSize lo hi 1:=by rw [rangeSize_one];split <;> omega
    show IsRangeIter _ _ (lo+((0:Nat):Int)*1) ((((hi - lo).toNat:Nat):Int) - ((0:Nat):Int)) 1
    rw [e1,e2]
    exact Heap.get?_push_size _ rfl
  · have e:b=(s.heap.push {cls:= .type "range",data:= .fields #[.int lo t, .int hi u, .int 1 v]}).objs.size:=by simpa using hb
    subst e
    exact I1.fpOk (Nat.le_refl _) (I1.hok.fresh (Nat.le_refl _))
def xQ (ta:TA):TI:=fun σ H R=>ta σ H fun vs H1=>∃j:Int,vs=[.int j]∧ -(2 ^ 62)≤j∧j < 2 ^ 62∧R (yO 0 j.toNat) H1
theorem pG {a:Expr} {ta:TA} {p pos:Pos} (hg:Gl X "range") (hm:X.mg "range"=none) (ha:PA X [a] ta) (hs:starEach [a] X.env=[(false,eval a X.env)]:=by rfl):PI X tg (.Call (.Name "range" p) [a] [] pos) (xQ ta):=by
  intro pins s σ H R I h
  refine Call_ (iE I hg hm boot_range (PyProof.Rows.callWith_type1 (cI (ha pos pins s σ H _ I h) fun us s1 ⟨vs,H1,I1,r1,q1⟩=>?_) hs rfl))
  obtain ⟨j,e,q1,q2,q⟩:=q1
  subst e
  cases r1 with
  | cons r rr=>
    cases rr
    obtain ⟨t,rfl⟩:=r
    exact call_range_1 (qK I1 (by omega) (by omega) q1 q2 (by simpa using q))
def zc (wi:TI) (g:TG) (tb:TS):TS:=fun D σ H=>wi σ H fun J H1=>∃W:Nat→Nat→St→Hp→Prop,(∃m,W 0 m σ H1)∧∀i m σ H,W i m σ H→
  (J.stop i H∧D.nx σ H)∨(J.go i H∧∃N:St→Hp→Prop,(∀σ' H',N σ' H'→∃m',m' < m∧W (i+1) m' σ' H')∧∀x H',J.yld i H x H'→g x σ H' fun σ2 H2=>tb {D with nx:=N,ct:=N,bk:=D.nx} σ2 H2)
def jC (fp:List Addr) (h:Heap):List (Addr×Obj):=fp.filterMap fun b=>(h.get? b).map fun o=>(b,o)
theorem fO {fp:List Addr} {h:Heap} {b:Addr} {o:Obj} (hb:b∈fp) (e:h.get? b=some o):(b,o)∈jC fp h:=List.mem_filterMap.mpr ⟨b,hb,by rw [e];rfl⟩
theorem pH {fp:List Addr} {h:Heap} {p:Addr×Obj} (hp:p∈jC fp h):p.1∈fp∧h.get? p.1=some p.2:=by
  obtain ⟨b,hb,e⟩:=List.mem_filterMap.mp hp
  cases q:h.get? b with
  | none=>rw [q] at e;cases e
  | some o=>
    rw [q] at e
    have e':(b,o)=p:=Option.some.inj e
    subst e'
    exact ⟨hb,q⟩
theorem Inv.pinned {pins:List (Addr×Obj)} {σ:St} {H:Hp} {s:Shared} {fp:List Addr} (I:Inv X pins σ H s) (hf:∀b∈fp,ka X pins H b) (ho:∀b∈fp,∃o,s.heap.get? b=some o∧∀v,o.data≠ .cell v):Inv X (pins++jC fp s.heap) σ H s:=
  I.pins_of fun p hp=>(List.mem_append.mp hp).elim (fun z=>I.pin p (List.mem_append_right _ z)) fun z=>by
    obtain ⟨hb,e⟩:=pH z
    obtain ⟨f0,f1,f2,_⟩:=hf p.1 hb
    obtain ⟨o,e',d⟩:=ho p.1 hb
    rw [e] at e';cases e'
    exact ⟨e,f0,f1,f2,d⟩
theorem Inv.unpinned {pins pl:List (Addr×Obj)} {σ:St} {H:Hp} {s:Shared} (I:Inv X (pins++pl) σ H s):Inv X pins σ H s:=I.pins_of fun p hp=>I.pin p (List.mem_append_right _ (List.mem_append_left _ hp))
theorem v8 {iter:Expr} {body:List Stmt} {wi:TI} {g:TG} {tb:TS} {pos:Pos} (hp:PassesOwn (model X.prog X.w) X.A X.env X.xe) (hc:X.calm=true) (hi:PI X tg iter wi) (hg:PG X tg g) (hb:PSs X body tb)
    (hs:∀x,foldedSetIterable iter X.env x=pure x:=by intro _;rfl):PS X (.For tg iter body [] pos) (zc wi g tb):=by
  intro pins s σ H D I h
  refine wpAny_For (cI (hi pins s σ H _ I h) fun v s1 h1=>cI h1 fun itv s2 h2=>?_) hs
  obtain ⟨it,fp,tn,J,H2,e,I2,T,st2,f2,W,⟨m0,w0⟩,turn⟩:=h2
  subst e
  -- what stays true of the iterator's objects through the loop
  have stat:∀{H':Hp},(∀b∈fp,H' b=none)→∀b∈fp,ka X pins H' b:=fun hn b hb=>⟨hn b hb,(f2 b hb).2⟩
  refine codeAny_forLoop_any (fun n s'=>∃i σ' H',Inv X pins σ' H' s'∧tn i s'.heap∧(∀b∈fp,H' b=none)∧W i n σ' H') ?_ m0 ⟨0,σ,H2,I2,st2,fun b hb=>(f2 b hb).1,w0⟩
  rintro n s3 ⟨i,σ3,H3,I3,st3,fr3,w3⟩
  rcases turn i n σ3 H3 w3 with ⟨stop,qn⟩ | ⟨go,N,hN,step⟩
  · refine wpAny_passesOwn hp (cI (T.done X rfl rfl rfl hc i pins s3 σ3 H3 X.xe I3 (stat fr3) st3 stop) fun r s4 ⟨hr,I4⟩=>?_)
    subst hr
    exact wpAny_execs_nil ⟨σ3,H3,I4,qn⟩
  · refine wpAny_passesOwn hp (cI (T.item X rfl rfl rfl hc i pins s3 σ3 H3 X.xe I3 (stat fr3) st3 go) fun r s4 ⟨u,hr,h4⟩=>?_)
    subst hr
    refine wpAny_passesOwn hp (cI h4 fun _ s5 ⟨x,H5,I5,r5,y5,st5,fr5⟩=>?_)
    have I5':=I5.pinned (stat fr5) (T.obj _ _ st5)
    refine wpAny_passesOwn hp (cI (hg _ s5 σ3 H5 x u _ I5' r5 (step x H5 y5)) fun _ s6 ⟨σ6,H6,I6,q6⟩=>?_)
    refine wpAny_passesOwn hp (cI (hb _ s6 σ6 H6 _ I6 q6) fun f s7 q7=>?_)
    have again:∀{σ7:St} {H7:Hp},Inv X (pins++jC fp s5.heap) σ7 H7 s7→N σ7 H7→∃m,m < n∧∃i σ' H',Inv X pins σ' H' s7∧tn i s7.heap∧(∀b∈fp,H' b=none)∧W i m σ' H':=fun {σ7 H7} I7 n7=>by
      obtain ⟨m',hm,w7⟩:=hN σ7 H7 n7
      refine ⟨m',hm,i+1,σ7,H7,I7.unpinned,T.keep _ _ _ st5 fun b hb o e=>(I7.pin (b,o) (List.mem_append_right _ (List.mem_append_right _ (fO hb e)))).1,fun b hb=>?_,w7⟩
      obtain ⟨o,e,d⟩:=T.obj _ _ st5 b hb
      exact (I7.pin (b,o) (List.mem_append_right _ (List.mem_append_right _ (fO hb e)))).2.1
    cases f with
    | next=>obtain ⟨σ7,H7,I7,n7⟩:=q7;exact again I7 n7
    | cont=>obtain ⟨σ7,H7,I7,n7⟩:=q7;exact again I7 n7
    | brk=>obtain ⟨σ7,H7,I7,q7⟩:=q7;exact ⟨σ7,H7,I7.unpinned,q7⟩
    | ret v=>obtain ⟨x7,σ7,H7,I7,r7,q7⟩:=q7;exact ⟨x7,σ7,H7,I7.unpinned,r7,q7⟩
end
end L2
namespace L2
open PySem PySem.Spec PyProof.Rows
abbrev R2:=V→V→Hp→VK→Prop
def OpR (X:Cx) (f:Value→Value→Sem Value) (r:R2):Prop:=
  ∀(pins:List (Addr×Obj)) (s:Shared) (σ:St) (H:Hp) (x y:V) (v u:Value) (Q:VK),Inv X pins σ H s→RelV x v→RelV y u→r x y H Q→
    wpAny (model X.prog X.w) X.A (f v u) (EP X pins σ Q) X.xe s
def zd (X:Cx) (f:Value→Sem Value) (r:V→Hp→VK→Prop):Prop:=
  ∀(pins:List (Addr×Obj)) (s:Shared) (σ:St) (H:Hp) (x:V) (v:Value) (Q:VK),Inv X pins σ H s→RelV x v→r x H Q→
    wpAny (model X.prog X.w) X.A (f v) (EP X pins σ Q) X.xe s
def CallR (X:Cx) (f:Value) (r:List V→Hp→VK→Prop):Prop:=
  ∀(pins:List (Addr×Obj)) (s:Shared) (σ:St) (H:Hp) (xs:List V) (us:List Value) (Q:VK),Inv X pins σ H s→Vals xs us→r xs H Q→
    wpAny (model X.prog X.w) X.A (call f us) (EP X pins σ Q) X.xe s
def ze (X:Cx) (r:V→Hp→(Bool→Hp→Prop)→Prop):Prop:=
  ∀(pins:List (Addr×Obj)) (s:Shared) (σ:St) (H:Hp) (x:V) (v:Value) (Q:Bool→Hp→Prop),Inv X pins σ H s→RelV x v→r x H Q→
    wpAny (model X.prog X.w) X.A (truthy v) (TP X pins σ Q) X.xe s
def vk (r:R2) (ta tb:TE):TE:=fun σ H Q=>ta σ H fun x H1=>tb σ H1 fun y H2=>r x y H2 Q
def Ae (r:V→Hp→VK→Prop) (ta:TE):TE:=fun σ H Q=>ta σ H fun x H1=>r x H1 Q
def rI (C:Int→Int→Prop) (g:Int→Int→V):R2:=fun x y H Q=>∃i j,x= .int i∧y= .int j∧C i j∧Q (g i j) H
def tZ (g:Int→Int→V):R2:=fun x y H Q=>∃i j,x= .int i∧y= .int j∧Q (g i j) H
def rU (g:Int→V):V→Hp→VK→Prop:=fun x H Q=>∃i,x= .int i∧Q (g i) H
section
variable {X:Cx} {a b c:Expr} {ta tb tc:TE} {pos:Pos}
theorem v9 (ha:PE X a ta) (hb:PE X b tb) {pins:List (Addr×Obj)} {s:Shared} {σ:St} {H:Hp} {R:V→V→Hp→Prop} (I:Inv X pins σ H s)
    (h:ta σ H fun x H1=>tb σ H1 fun y H2=>R x y H2) {Q:Value→Shared→Prop} {f:Value→Value→Sem Value}
    (hf:∀v u s2 x y H2,Inv X pins σ H2 s2→RelV x v→RelV y u→R x y H2→wpAny (model X.prog X.w) X.A (f v u) Q X.xe s2):
    wpAny (model X.prog X.w) X.A (eval a X.env) (fun v s₁=>wpAny (model X.prog X.w) X.A (eval b X.env) (fun u s₂=>wpAny (model X.prog X.w) X.A (f v u) Q X.xe s₂) X.xe s₁) X.xe s:=by
  refine cI (ha pins s σ H _ I h) fun v s1 ⟨x,H1,I1,r1,q1⟩=>?_
  refine cI (hb pins s1 σ H1 _ I1 q1) fun u s2 ⟨y,H2,I2,r2,q2⟩=>?_
  exact hf v u s2 x y H2 I2 r1 r2 q2
theorem kG {op:Operator} {r:R2} (ho:OpR X (binaryOp op) r) (ha:PE X a ta) (hb:PE X b tb):PE X (.BinOp a op b pos) (vk r ta tb):=by
  intro pins s σ H Q I h
  exact wpAny_BinOp (v9 ha hb I h fun v u s2 x y H2 I2 rx ry q=>ho pins s2 σ H2 x y v u Q I2 rx ry q)
theorem xR {op:UnaryOp} {r:V→Hp→VK→Prop} (ho:zd X (unaryOp op) r) (ha:PE X a ta):PE X (.UnaryOp op a pos) (Ae r ta):=by
  intro pins s σ H Q I h
  exact UnaryOp_ (cI (ha pins s σ H _ I h) fun v s1 ⟨x,H1,I1,r1,q1⟩=>ho pins s1 σ H1 x v Q I1 r1 q1)
theorem yP {f:Value→Value→Sem Value} {C:Int→Int→Prop} {g:Int→Int→Int}
    (rule:∀(i j:Int) (t u:Tok) (s:Shared) (Q:Value→Shared→Prop) (E:Value→Shared→Prop),C i j→Q (.int (g i j) s.toks) {s with toks:=s.toks+1}→wpAny (model X.prog X.w) X.A (f (.int i t) (.int j u)) Q E s):
    OpR X f (rI C fun i j=> .int (g i j)):=by
  intro pins s σ H x y v u Q I rx ry h
  obtain ⟨i,j,rfl,rfl,hc,q⟩:=h
  obtain ⟨t,rfl⟩:=rx
  obtain ⟨t',rfl⟩:=ry
  exact rule i j t t' s _ _ hc ⟨.int (g i j),H,I.tok _,⟨_,rfl⟩,q⟩
theorem xS {f:Value→Value→Sem Value} {g:Int→Int→Int}
    (rule:∀(i j:Int) (t u:Tok) (s:Shared) (Q:Value→Shared→Prop) (E:Value→Shared→Prop),Q (.int (g i j) s.toks) {s with toks:=s.toks+1}→wpAny (model X.prog X.w) X.A (f (.int i t) (.int j u)) Q E s):
    OpR X f (tZ fun i j=> .int (g i j)):=by
  intro pins s σ H x y v u Q I rx ry h
  obtain ⟨i,j,rfl,rfl,q⟩:=h
  obtain ⟨t,rfl⟩:=rx
  obtain ⟨t',rfl⟩:=ry
  exact rule i j t t' s _ _ ⟨.int (g i j),H,I.tok _,⟨_,rfl⟩,q⟩
theorem t8 {f:Value→Value→Sem Value} {g:Int→Int→Bool}
    (rule:∀(i j:Int) (t u:Tok) (s:Shared) (Q:Value→Shared→Prop) (E:Value→Shared→Prop),Q (.bool (g i j)) s→wpAny (model X.prog X.w) X.A (f (.int i t) (.int j u)) Q E s):
    OpR X f (tZ fun i j=> .bl (g i j)):=by
  intro pins s σ H x y v u Q I rx ry h
  obtain ⟨i,j,rfl,rfl,q⟩:=h
  obtain ⟨t,rfl⟩:=rx
  obtain ⟨t',rfl⟩:=ry
  exact rule i j t t' s _ _ ⟨.bl (g i j),H,I,rfl,q⟩
def xT (i j:Int):Prop:=0≤j∧j≤1000000∧i.natAbs < 2 ^ 64
def CMul (i j:Int):Prop:=(-(2 ^ 64) < i∧i < 2 ^ 64)∨(-(2 ^ 64) < j∧j < 2 ^ 64)
theorem CMul.ok {i j:Int} (h:CMul i j):IntMulOk i j:=by
  rcases h with ⟨h1,h2⟩ | ⟨h1,h2⟩
  · exact .of_left (intBits_le_64 h1 h2)
  · exact .of_right (intBits_le_64 h1 h2)
theorem qL:OpR X (binaryOp .Add) (tZ fun i j=> .int (i+j)):=xS fun _ _ _ _ _ _ _ q=>add_int q
theorem v_:OpR X (binaryOp .Sub) (tZ fun i j=> .int (i - j)):=xS fun _ _ _ _ _ _ _ q=>sub_int q
theorem qM:OpR X (binaryOp .Mod) (rI (fun _ j=>0 < j) fun i j=> .int (i % j)):=yP fun i j _ _ _ _ _ hc q=>by
  have h1:(0:Int) < j:=hc
  exact mod_int' (by omega) (by rw [Int.fmod_eq_emod_of_nonneg i (by omega)];exact q)
theorem wa:OpR X (binaryOp .Pow) (rI xT fun i j=> .int (i ^ j.toNat)):=yP fun _ _ _ _ _ _ _ hc q=>pow_int_small hc.1 hc.2.1 hc.2.2 q
theorem Af {f:Value→Sem Value} {g:Int→Int}
    (rule:∀(i:Int) (t:Tok) (s:Shared) (Q:Value→Shared→Prop) (E:Value→Shared→Prop),Q (.int (g i) s.toks) {s with toks:=s.toks+1}→wpAny (model X.prog X.w) X.A (f (.int i t)) Q E s):
    zd X f (rU fun i=> .int (g i)):=by
  intro pins s σ H x v Q I rx h
  obtain ⟨i,rfl,q⟩:=h
  obtain ⟨t,rfl⟩:=rx
  exact rule i t s _ _ ⟨.int (g i),H,I.tok _,⟨_,rfl⟩,q⟩
theorem wb:zd X (unaryOp .USub) (rU fun i=> .int (-i)):=Af fun _ _ _ _ _ q=>neg_int q
end
def wc:V→V→Bool
  | .non, .non=>true | .non, .int _=>true | .int _, .non=>true | .non, .bl _=>true | .bl _, .non=>true | .non, .str _=>true | .str _, .non=>true
  | .int _, .int _=>true | .bl _, .bl _=>true | .str _, .str _=>true | .byt _, .byt _=>true
  | .int _, .str _=>true | .str _, .int _=>true | .bl _, .str _=>true | .str _, .bl _=>true
  | _,_=>false
def zP:R2:=fun x y H Q=>wc x y=true∧Q (.bl (decide (x=y))) H
def zQ:R2:=fun x y H Q=>wc x y=true∧Q (.bl (!decide (x=y))) H
theorem oP {i j:Int}:decide (V.int i=V.int j)=(i == j):=by
  rw [Bool.eq_iff_iff]
  simp
theorem qN {i j:Bool}:decide (V.bl i=V.bl j)=(i == j):=by
  rw [Bool.eq_iff_iff]
  simp
theorem oQ {i j:Str}:decide (V.str i=V.str j)=(i == j):=by
  rw [Bool.eq_iff_iff]
  simp
theorem oR {i j:Array UInt8}:decide (V.byt i=V.byt j)=(i.toList == j.toList):=by
  rw [Bool.eq_iff_iff]
  cases i
  cases j
  simp
section
variable {X:Cx} {a b c:Expr} {ta tb tc:TE} {pos:Pos}
theorem aP {pins:List (Addr×Obj)} {σ:St} {H:Hp} {s:Shared} {Q:VK} {k k':Bool} (I:Inv X pins σ H s) (q:Q (.bl k) H) (e:k=k'):EP X pins σ Q (.bool k') s:=by
  subst e
  exact ⟨.bl k,H,I,rfl,q⟩
theorem vm:OpR X (compareOp .Eq) zP:=by
  intro pins s σ H x y v u Q I rx ry h
  obtain ⟨hs,q⟩:=h
  cases x with
  | non=>
    cases rx
    cases y with
    | non=>cases ry;exact PySem.EqNone.eq_none_none (aP I q (by simp))
    | bl j=>cases ry;exact PySem.EqNone.eq_none_bool (aP I q (by simp))
    | int j=>obtain ⟨t',rfl⟩:=ry;exact PySem.EqNone.eq_none_int (aP I q (by simp))
    | str j=>obtain ⟨t',rfl⟩:=ry;exact PySem.EqNone.eq_none_str (aP I q (by simp))
    | _=>exact absurd (show false=true from hs) Bool.false_ne_true
  | bl i=>
    cases rx
    cases y with
    | non=>cases ry;exact PySem.EqNone.eq_bool_none (aP I q (by simp))
    | bl j=>cases ry;exact eq_bool (aP I q qN)
    | str j=>obtain ⟨t',rfl⟩:=ry;exact PySem.EqMixed.eq_bool_str (aP I q (by simp))
    | _=>exact absurd (show false=true from hs) Bool.false_ne_true
  | int i=>
    obtain ⟨t,rfl⟩:=rx
    cases y with
    | non=>cases ry;exact PySem.EqNone.eq_int_none (aP I q (by simp))
    | int j=>obtain ⟨t',rfl⟩:=ry;exact eq_int (aP I q oP)
    | str j=>obtain ⟨t',rfl⟩:=ry;exact PySem.EqMixed.eq_int_str (aP I q (by simp))
    | _=>exact absurd (show false=true from hs) Bool.false_ne_true
  | str i=>
    obtain ⟨t,rfl⟩:=rx
    cases y with
    | non=>cases ry;exact PySem.EqNone.eq_str_none (aP I q (by simp))
    | bl j=>cases ry;exact PySem.EqMixed.eq_str_bool (aP I q (by simp))
    | int j=>obtain ⟨t',rfl⟩:=ry;exact PySem.EqMixed.eq_str_int (aP I q (by simp))
    | str j=>obtain ⟨t',rfl⟩:=ry;exact eq_str (aP I q oQ)
    | _=>exact absurd (show false=true from hs) Bool.false_ne_true
  | byt i=>
    obtain ⟨t,rfl⟩:=rx
    cases y with
    | byt j=>obtain ⟨t',rfl⟩:=ry;exact PySem.W.eq_bytes (aP I q oR)
    | _=>exact absurd (show false=true from hs) Bool.false_ne_true
  | _=>cases y <;> exact absurd (show false=true from hs) Bool.false_ne_true
theorem vn:OpR X (compareOp .NotEq) zQ:=by
  intro pins s σ H x y v u Q I rx ry h
  obtain ⟨hs,q⟩:=h
  cases x with
  | non=>
    cases rx
    cases y with
    | non=>cases ry;exact PySem.EqNone.ne_none_none (aP I q (by simp))
    | bl j=>cases ry;exact PySem.EqNone.ne_none_bool (aP I q (by simp))
    | int j=>obtain ⟨t',rfl⟩:=ry;exact PySem.EqNone.ne_none_int (aP I q (by simp))
    | str j=>obtain ⟨t',rfl⟩:=ry;exact PySem.EqNone.ne_none_str (aP I q (by simp))
    | _=>exact absurd (show false=true from hs) Bool.false_ne_true
  | bl i=>
    cases rx
    cases y with
    | non=>cases ry;exact PySem.EqNone.ne_bool_none (aP I q (by simp))
    | bl j=>cases ry;exact ne_bool (aP I q (congrArg not qN))
    | str j=>obtain ⟨t',rfl⟩:=ry;exact PySem.EqMixed.ne_bool_str (aP I q (by simp))
    | _=>exact absurd (show false=true from hs) Bool.false_ne_true
  | int i=>
    obtain ⟨t,rfl⟩:=rx
    cases y with
    | non=>cases ry;exact PySem.EqNone.ne_int_none (aP I q (by simp))
    | int j=>obtain ⟨t',rfl⟩:=ry;exact ne_int (aP I q (congrArg not oP))
    | str j=>obtain ⟨t',rfl⟩:=ry;exact PySem.EqMixed.ne_int_str (aP I q (by simp))
    | _=>exact absurd (show false=true from hs) Bool.false_ne_true
  | str i=>
    obtain ⟨t,rfl⟩:=rx
    cases y with
    | non=>cases ry;exact PySem.EqNone.ne_str_none (aP I q (by simp))
    | bl j=>cases ry;exact PySem.EqMixed.ne_str_bool (aP I q (by simp))
    | int j=>obtain ⟨t',rfl⟩:=ry;exact PySem.EqMixed.ne_str_int (aP I q (by simp))
    | str j=>obtain ⟨t',rfl⟩:=ry;exact ne_str (aP I q (congrArg not oQ))
    | _=>exact absurd (show false=true from hs) Bool.false_ne_true
  | byt i=>
    obtain ⟨t,rfl⟩:=rx
    cases y with
    | byt j=>obtain ⟨t',rfl⟩:=ry;exact PySem.W.ne_bytes (aP I q (congrArg not oR))
    | _=>exact absurd (show false=true from hs) Bool.false_ne_true
  | _=>cases y <;> exact absurd (show false=true from hs) Bool.false_ne_true
theorem xU:OpR X (compareOp .Lt) (tZ fun i j=> .bl (decide (i < j))):=t8 fun _ _ _ _ _ _ _ q=>lt_int q
theorem xV:OpR X (compareOp .LtE) (tZ fun i j=> .bl (decide (i≤j))):=t8 fun _ _ _ _ _ _ _ q=>le_int q
theorem xW:OpR X (compareOp .Gt) (tZ fun i j=> .bl (decide (j < i))):=t8 fun _ _ _ _ _ _ _ q=>gt_int q
theorem xX:OpR X (compareOp .GtE) (tZ fun i j=> .bl (decide (j≤i))):=t8 fun _ _ _ _ _ _ _ q=>ge_int q
theorem pI:OpR X (compareOp .Lt) (fun x y H Q=>∃i j,x= .str i∧y= .str j∧Q (.bl (decide (i.cps.toList < j.cps.toList))) H):=by
  intro pins s σ H x y v u Q I rx ry h
  obtain ⟨i,j,rfl,rfl,q⟩:=h
  obtain ⟨t,rfl⟩:=rx
  obtain ⟨t',rfl⟩:=ry
  exact lt_str (aP I q rfl)
theorem OpR.or {f:Value→Value→Sem Value} {r r':R2} (h:OpR X f r) (h':OpR X f r'):OpR X f (fun x y H Q=>r x y H Q∨r' x y H Q):=by
  intro pins s σ H x y v u Q I rx ry q
  rcases q with q | q
  · exact h pins s σ H x y v u Q I rx ry q
  · exact h' pins s σ H x y v u Q I rx ry q
theorem jD (b:Expr) {op:CmpOp} (h:op≠ .In:=by decide) (h2:op≠ .NotIn:=by decide):behindInMarks op b=false:=by
  have e1:(op == CmpOp.In)=false:=by cases op <;> first | rfl | exact absurd rfl h
  have e2:(op == CmpOp.NotIn)=false:=by cases op <;> first | rfl | exact absurd rfl h2
  cases b <;> simp [behindInMarks,e1,e2]
theorem t9 {op:CmpOp} {r:R2} (ho:OpR X (compareOp op) r) (ha:PE X a ta) (hb:PE X b tb) (hm:behindInMarks op b=false):PE X (.Compare a [op] [b] pos) (vk r ta tb):=by
  intro pins s σ H Q I h
  exact wpAny_Compare1 (v9 ha hb I h fun v u s2 x y H2 I2 rx ry q=>ho pins s2 σ H2 x y v u Q I2 rx ry q) hm
def vo (t:TE):TT:=fun σ H Q=>t σ H fun x H'=>∃k,x= .bl k∧Q k H'
theorem t_ {op:CmpOp} {r:R2} (ho:OpR X (compareOp op) r) (ha:PE X a ta) (hb:PE X b tb) (hm:behindInMarks op b=false):PT X (.Compare a [op] [b] pos) (vo (vk r ta tb)):=by
  intro pins s σ H Q I h
  refine wpAny_isTrue_Compare1 (cI (ha pins s σ H _ I h) fun v s1 ⟨x,H1,I1,r1,q1⟩=>cI (hb pins s1 σ H1 _ I1 q1) fun u s2 ⟨y,H2,I2,r2,q2⟩=>
    cI (ho pins s2 σ H2 x y v u _ I2 r1 r2 q2) fun c s3 ⟨z,H3,I3,r3,k,e,q3⟩=>?_) hm
  subst e
  cases r3
  exact wpAny_truthy_bool ⟨H3,I3,q3⟩
def qO (r r':R2) (ta tb tc:TE):TE:=fun σ H Q=>ta σ H fun x H1=>tb σ H1 fun y H2=>r x y H2 fun z H3=>∃k,z= .bl k∧
  (if k=true then tc σ H3 fun w' H4=>r' y w' H4 Q else Q (.bl false) H3)
theorem qP {op op':CmpOp} {r r':R2} (ho:OpR X (compareOp op) r) (ho':OpR X (compareOp op') r') (ha:PE X a ta) (hb:PE X b tb) (hc:PE X c tc)
    (hm:lastMarks [op,op'] [b,c]=false:=by with_unfolding_all rfl):PT X (.Compare a [op,op'] [b,c] pos) (vo (qO r r' ta tb tc)):=by
  intro pins s σ H Q I h
  refine isTrue_chain (cI (ha pins s σ H _ I h) fun v s1 ⟨x,H1,I1,r1,q1⟩=>test_link (cI (hb pins s1 σ H1 _ I1 q1) fun u s2 ⟨y,H2,I2,r2,q2⟩=>
    cI (ho pins s2 σ H2 x y v u _ I2 r1 r2 q2) fun d s3 ⟨z,H3,I3,r3,k,e,q3⟩=>?_)) hm
  subst e
  cases r3
  refine wpAny_truthy_bool ?_
  cases k with
  | false=>
    obtain ⟨k',e',q'⟩:=q3
    cases e'
    exact ite_ff ⟨H3,I3,q'⟩
  | true=>
    refine ite_tt (test_last (cI (hc pins s3 σ H3 _ I3 q3) fun w' s4 ⟨z',H4,I4,r4,q4⟩=>cI (ho' pins s4 σ H4 y z' u w' _ I4 r2 r4 q4) fun d' s5 ⟨z2,H5,I5,r5,k2,e2,q5⟩=>?_))
    subst e2
    cases r5
    exact wpAny_truthy_bool ⟨H5,I5,q5⟩
def qQ (K:PySem.W.Frag) (x:V) (H:Hp) (k:Bool):Prop:=
  match x with
  | .non=>k=false
  | .bl b=>k=b
  | .int i=>k=(i != 0)
  | .str y=>y.length≤sizeLine∧k=((y.length:Int) != 0)
  | .byt y=>y.size≤sizeLine∧k=((y.size:Int) != 0)
  | .ref p=>(∃xs,SqL K H p xs∧k= !xs.isEmpty)∨(∃xs,SqT K H p xs∧k= !xs.isEmpty)∨∃kvs,H p=some (.dK kvs)∧k= !kvs.isEmpty
  | _=>False
theorem nR {κ:Type} {kvs:List (κ×V)} {vs:List (κ×Value)} (r:KV kvs vs):(!vs.isEmpty)= !kvs.isEmpty:=by
  cases r <;> rfl
theorem jE {xs:List V} {its:List Value} (r:Vals xs its):(!its.toArray.isEmpty)= !xs.isEmpty:=by
  cases r <;> simp
theorem gU:(sizeLine:Nat) < 2 ^ 63:=by rw [sizeLine_eq];decide
theorem wd:ze X (fun x H Q=>∃k,qQ X.K x H k∧Q k H):=by
  intro pins s σ H x v Q I rx h
  obtain ⟨k,e,q⟩:=h
  have hl:=gU
  have hs:sizeLine=16777216:=sizeLine_eq
  cases x with
  | non=>
    cases rx
    have e':k=false:=e
    subst e'
    exact truthy_none ⟨H,I,q⟩
  | bl b=>
    cases rx
    have e':k=b:=e
    subst e'
    exact wpAny_truthy_bool ⟨H,I,q⟩
  | int i=>
    obtain ⟨t,rfl⟩:=rx
    have e':k=(i != 0):=e
    subst e'
    exact PySem.P.truthy_int ⟨H,I,q⟩
  | str y=>
    obtain ⟨t,rfl⟩:=rx
    obtain ⟨hy,e'⟩:y.length≤sizeLine∧k=((y.length:Int) != 0):=e
    subst e'
    exact PySem.P.truthy_str (by omega) ⟨H,I.tok _,q⟩
  | byt y=>
    obtain ⟨t,rfl⟩:=rx
    obtain ⟨hy,e'⟩:y.size≤sizeLine∧k=((y.size:Int) != 0):=e
    subst e'
    exact PySem.W.truthy_bytes (by omega) ⟨H,I.tok _,q⟩
  | ref p=>
    cases rx
    have e':(∃xs,SqL X.K H p xs∧k= !xs.isEmpty)∨(∃xs,SqT X.K H p xs∧k= !xs.isEmpty)∨∃kvs,H p=some (.dK kvs)∧k= !kvs.isEmpty:=e
    rcases e' with ⟨xs,hx,e'⟩ | ⟨xs,hx,e'⟩ | ⟨kvs,hx,e'⟩
    · subst e'
      obtain ⟨its,r,pl,hz⟩:=I.list hx
      have hlen:=r.length
      exact wpAny_truthy_list pl.isList (by simp only [List.size_toArray];omega) ⟨H,I.tok _,by rw [jE r];exact q⟩
    · subst e'
      obtain ⟨its,r,pl,hz⟩:=I.tuple hx
      have hlen:=r.length
      exact truthy_tuple pl (by simp only [List.size_toArray];omega) ⟨H,I.tok _,by rw [jE r];exact q⟩
    · subst e'
      obtain ⟨hz,hS,vs,r,m⟩:kvs.length≤sizeLine∧(p == sysModules)=false∧∃vs,KV kvs vs∧s.heap.DictOf (jn X.prog X.w) p vs:=I.hok p _ hx
      have hlen:kvs.length=vs.length:=Paired.length r
      exact wpAny_truthy_dict hS m (by omega) ⟨H,I.tok _,by rw [nR r];exact q⟩
  | _=>exact (show False from e).elim
theorem qR (ha:PE X a ta) (he:∀whole,isTrue a X.env whole=(do let v ←whole;standAt a.pos;holding [v] (truthy v))):
    PT X a (fun σ H Q=>ta σ H fun x H'=>∃k,qQ X.K x H' k∧Q k H'):=by
  intro pins s σ H Q I h
  exact isTrue_plain (cI (ha pins s σ H _ I h) fun v s1 ⟨x,H1,I1,r1,q1⟩=>wd pins s1 σ H1 x v Q I1 r1 q1) (he _)
theorem nS:OpR X (binaryOp .Add) (fun x y H Q=>∃i j,x= .str i∧y= .str j∧i.length+j.length≤sizeLine∧Q (.str (i++j)) H):=by
  intro pins s σ H x y v u Q I rx ry h
  obtain ⟨i,j,rfl,rfl,hz,q⟩:=h
  obtain ⟨t,rfl⟩:=rx
  obtain ⟨t',rfl⟩:=ry
  exact add_str (fun t' tk=>⟨.str (i++j),H,I.tok _,⟨_,rfl⟩,q⟩) hz
theorem jF {x:V} {us:List Value} (r:Vals [x] us):∃u,us=[u]∧RelV x u:=by
  cases r with
  | cons r1 r2=>cases r2;exact ⟨_,rfl,r1⟩
theorem mH:CallR X (.builtin "abs") (fun xs H Q=>∃i,xs=[.int i]∧Q (.int (if i < 0 then -i else i)) H):=by
  intro pins s σ H xs us Q I r h
  obtain ⟨i,rfl,q⟩:=h
  obtain ⟨u,rfl,t,rfl⟩:=jF r
  exact call_abs_int fun u tk=>⟨.int (if i < 0 then -i else i),H,I.tok _,⟨_,rfl⟩,q⟩
theorem pJ:CallR X (.type "int") (fun xs H Q=>(∃i,xs=[.int i]∧Q (.int i) H)∨∃k,xs=[.bl k]∧Q (.int (if k then 1 else 0)) H):=by
  intro pins s σ H xs us Q I r h
  rcases h with ⟨i,rfl,q⟩ | ⟨k,rfl,q⟩
  · obtain ⟨u,rfl,t,rfl⟩:=jF r
    exact call_int_int ⟨.int i,H,I,⟨_,rfl⟩,q⟩
  · obtain ⟨u,rfl,r1⟩:=jF r
    cases r1
    exact call_int_bool ⟨.int (if k then 1 else 0),H,I.tok _,⟨_,rfl⟩,q⟩
end
end L2
namespace L2
open PySem PySem.Spec PyProof.Rows
structure ObjM (h:Heap) (x dx C:Addr) (mA:Str→Option Value):Prop where
  obj:h.get? x=some (PySem.W.instObj C dx)
  ns:h.Ns1 dx mA
  ne:dx≠x
theorem pK {h:Heap} {dx:Addr} {mA:Str→Option Value} (n:h.Ns1 dx mA):∃od,h.get? dx=some od∧∀name,PySem.W.lookIn name od=some (mA name):=by
  obtain ⟨o,es,ep,ho,hd,hk,_,hm⟩:=n
  refine ⟨o,ho,fun name=>?_⟩
  have e:=hm name
  unfold nsFind findBy at e
  rw [←Array.find?_toList] at e
  unfold PySem.W.lookIn
  rw [hd]
  dsimp only
  split
  · rename_i y q
    rw [q] at e
    exact congrArg some e
  · rename_i q
    rw [q] at e
    have a:es.toList.any (·.refKey)=false:=by
      rw [List.any_eq_false]
      intro y hy
      obtain ⟨z,t,hkey⟩:=hk y (Array.mem_toList_iff.mp hy)
      simp [DictEntry.refKey,hkey]
    have a':¬es.toList.any (·.refKey)=true:=by rw [a];exact Bool.false_ne_true
    rw [if_neg a']
    exact congrArg some e
theorem ObjM.look {h:Heap} {x dx C:Addr} {mA:Str→Option Value} (I:ObjM h x dx C mA):∃od,PySem.W.InstAt h x (PySem.W.instObj C dx) C (some od)∧∀name,PySem.W.lookIn name od=some (mA name):=
  let ⟨od,ho,hl⟩:=pK I.ns
  ⟨od,⟨I.obj,rfl,rfl,ho⟩,hl⟩
section
variable {prog:Program} {w:World} {A:Around} {E:Value→Shared→Prop} {s:Shared} {K:PySem.W.Frag} {x dx C f:Addr} {mA:Str→Option Value} {name:Str} {v:Value}
theorem ub {expr:Bool} {Q:Value→Shared→Prop} (X:K.In s.heap) (I:ObjM s.heap x dx C mA) (hg:PySem.W.plainGet K C name=true) (hh:PySem.W.hasDictIn K C=true)
    (ha:PySem.W.findIn K (.ref C) name=some none) (hv:mA name=some v) (hv':PySem.W.handedIn v=true) (h:Q v {s with toks:=s.toks+1}):
    wpAny (model prog w) A (getAttr (.ref x) name expr) Q E s:=by
  obtain ⟨od,J,hl⟩:=I.look
  exact PySem.W.get_value X J (PySem.W.plainGet_of hg).1 (PySem.W.findObj_own hh ha rfl (by rw [hl,hv])) hv' h
theorem qS {pl:Sem Bool} {Q:Value×List Value→Shared→Prop} (X:K.In s.heap) (I:ObjM s.heap x dx C mA) (hg:PySem.W.plainGet K C name=true)
    (hf:PySem.W.findIn K (.ref C) name=some (some (.ref f))) (ht:PySem.W.isFn K (.ref f)=true) (hv:mA name=none) (h:Q (.ref f,[.ref x]) s):
    wpAny (model prog w) A (getMethod (.ref x) name pl) Q E s:=by
  obtain ⟨od,J,hl⟩:=I.look
  exact PySem.W.method_fn X J (PySem.W.plainGet_of hg).1 (PySem.W.plainGet_of hg).2 hf (beq_iff_eq.mp ht) (by show (PySem.W.lookIn name od).map (·.isSome)=some false;rw [hl,hv];rfl) h
theorem uc {ns:List Str} {Q:Unit→Shared→Prop} (X:K.In s.heap) (I:ObjM s.heap x dx C mA)
    (hs:PySem.W.findIn K (.ref C) "__setattr__"=some (some (.builtin "object.__setattr__"))) (hp:PySem.W.plainOver K C=true) (ht:PySem.W.takerIn K C name=some none) (hh:PySem.W.hasDictIn K C=true)
    (hw:PySem.Within mA ns) (hsz:ns.length≤sizeLine)
    (h:∀h',ObjM h' x dx C (fun y=>if y=name then some v else mA y)→Heap.SameBut dx s.heap h'→Q () {s with heap:=h',toks:=s.toks+2}):
    wpAny (model prog w) A (setAttr (.ref x) name v) Q E s:=by
  obtain ⟨od,J,hl⟩:=I.look
  refine PySem.W.set_plain X J hs (PySem.W.osa_open (s:={s with toks:=s.toks+1}) (r:=none) X J hp ht fun b=>?_)
  obtain ⟨cd,hc,hd'⟩:=PySem.W.any_some hh
  have hx:s.heap.get? x=some ⟨.ref C,some dx, .plain,#[]⟩:=I.obj
  refine wpAny_bind (wpAny_pure (wpAny_bind (wpAny_bind (wpAny_loadPart hx (wpAny_bind (PySem.W.Looks.here (s:={s with toks:=s.toks+1}) (PySem.W.looks_clsIn X hc) ?_))))))
  rw [hd']
  refine wpAny_pure (a:=some dx) (wpAny_bind (wpAny_pure (wpAny_bind ?_)))
  refine wpAny_nsSet1 (s:={s with toks:=s.toks+1}) I.ns fun h' hn2 hs2=>?_
  obtain ⟨oD,esD,epD,hoD,hdD,hcD⟩:=hn2.count (PySem.Within.cons name v hw)
  refine wpAny_bind (wpAny_lookBehind hoD (by rw [hdD];exact pastItsLine_dict (Nat.le_trans hcD (by rw [List.length_cons];omega))) ?_)
  exact wpAny_pure (h _ ⟨(hs2.2 _ (Ne.symm I.ne)).trans I.obj,hn2,I.ne⟩ hs2)
theorem qT {R:Result→Shared→Prop} {vs:List Value} {kw:List (Str×Value)} (X:K.In s.heap) (hm:PySem.W.makesIn K C=true)
    (hi:PySem.W.findIn K (.ref C) "__init__"=some (some (.ref f))) (hf:PySem.W.typeIn K (.ref f)=some (.type "function"))
    (h:codeAny (model prog w) (A.under (.builtin "type.__call__" ⟨.ref C::vs,kw⟩)) (.call (.ref f) ⟨.ref (s.heap.objs.size+1)::vs,kw⟩) (PySem.W.InitBack (s.heap.objs.size+1) R)
      {s with heap:=(s.heap.push PySem.W.emptyDict).push (PySem.W.instObj C s.heap.objs.size)}):
    codeAny (model prog w) A (.call (.ref C) ⟨vs,kw⟩) R s:=by
  obtain ⟨hh,g,d,t,os⟩:=s
  exact PySem.W.make_core (PySem.W.makes_of X hm) (PySem.W.looks_findIn X hi) (fun self=>PySem.W.bind_fn X self hf) (.inl rfl) h
end
def bL (f:Str) (v:V):List (Str×V)→List (Str×V)
  | []=>[(f,v)]
  | (g,x)::r=>if g=f then (g,v)::r else (g,x)::bL f v r
theorem aw (f g:Str) (v:V):∀fs:List (Str×V),(bL f v fs).lookup g=if g=f then some v else fs.lookup g
  | []=>by
    show List.lookup g [(f,v)]=_
    by_cases h:g=f
    · have hb:(g == f)=true:=beq_iff_eq.mpr h
      simp only [List.lookup,hb,if_pos h]
    · have hb:(g == f)=false:=beq_eq_false_iff_ne.mpr h
      simp only [List.lookup,hb,if_neg h]
  | (k,x)::r=>by
    have ih:=aw f g v r
    rw [show bL f v ((k,x)::r)=(if k=f then (k,v)::r else (k,x)::bL f v r) from rfl]
    by_cases hk:k=f
    · rw [if_pos hk]
      by_cases h:g=k
      · have hb:(g == k)=true:=beq_iff_eq.mpr h
        simp only [List.lookup,hb,if_pos (h.trans hk)]
      · have hb:(g == k)=false:=beq_eq_false_iff_ne.mpr h
        simp only [List.lookup,hb,if_neg (fun e:g=f=>h (e.trans hk.symm))]
    · rw [if_neg hk]
      by_cases h:g=k
      · have hb:(g == k)=true:=beq_iff_eq.mpr h
        simp only [List.lookup,hb,if_neg (fun e:g=f=>hk (h.symm.trans e))]
      · have hb:(g == k)=false:=beq_eq_false_iff_ne.mpr h
        simp only [List.lookup,hb]
        exact ih
theorem iF (f:Str) (v:V):∀fs:List (Str×V),f∈(bL f v fs).map (·.1)∧∀g,g∈fs.map (·.1)→g∈(bL f v fs).map (·.1)
  | []=>⟨by simp [bL],fun g h=>by simp at h⟩
  | (k,x)::r=>by
    obtain ⟨i1,i2⟩:=iF f v r
    rw [show bL f v ((k,x)::r)=(if k=f then (k,v)::r else (k,x)::bL f v r) from rfl]
    by_cases hk:k=f
    · rw [if_pos hk]
      subst hk
      exact ⟨by simp,fun g h=>by simpa using h⟩
    · rw [if_neg hk]
      refine ⟨?_,fun g h=>?_⟩
      · rw [List.map_cons]
        exact List.mem_cons_of_mem _ i1
      · rw [List.map_cons] at h ⊢
        rcases List.mem_cons.mp h with e | e
        · exact List.mem_cons.mpr (.inl e)
        · exact List.mem_cons_of_mem _ (i2 g e)
theorem gp (f:Str) (v:V):∀fs:List (Str×V),(bL f v fs).length≤fs.length+1
  | []=>by simp [bL]
  | (k,x)::r=>by
    have ih:=gp f v r
    rw [show bL f v ((k,x)::r)=(if k=f then (k,v)::r else (k,x)::bL f v r) from rfl]
    by_cases hk:k=f
    · rw [if_pos hk,List.length_cons,List.length_cons];omega
    · rw [if_neg hk,List.length_cons,List.length_cons];omega
theorem RelO.some_of {v:V} {o:Option Value} (r:RelO (some v) o):∃u,o=some u∧RelV v u:=by
  cases o with
  | none=>exact (show False from r).elim
  | some u=>exact ⟨u,rfl,r⟩
theorem RelO.none_of {o:Option Value} (r:RelO none o):o=none:=by
  cases o with
  | none=>rfl
  | some u=>exact (show False from r).elim
theorem pL {v:V} {u:Value} (r:RelV v u):PySem.W.handedIn u=true:=by
  cases v with
  | non=>cases (show u=Value.none from r);rfl
  | bl b=>cases (show u=Value.bool b from r);rfl
  | int i=>obtain ⟨t,e⟩:=(show ∃t,u=Value.int i t from r);cases e;rfl
  | str x=>obtain ⟨t,e⟩:=(show ∃t,u=Value.str x t from r);cases e;rfl
  | byt b=>obtain ⟨t,e⟩:=(show ∃t,u=Value.bytes b t from r);cases e;rfl
  | flt b=>obtain ⟨t,e⟩:=(show ∃t,u=Value.float b t from r);cases e;rfl
  | ref a=>cases (show u=Value.ref a from r);rfl
  | ty n=>cases (show u=Value.type n from r);rfl
section
variable {P:Program} {w:World} {H H':Hp} {h h':Heap} {a C dx:Addr} {fs fs':List (Str×V)}
theorem hM (hok:HOk P w H h) (e:H a=some (.ins C dx fs)):∃mA,ObjM h a dx C mA∧(∀f,RelO (fs.lookup f) (mA f))∧PySem.Within mA (fs.map (·.1))∧fs.length≤1000∧H dx=some (.own a):=by
  obtain ⟨d,z,ne,ob,mA,n,r,q⟩:=(show ObjOk P w H h a (.ins C dx fs) from hok a _ e)
  exact ⟨mA,⟨ob,n,ne⟩,r,q,z,d⟩
end
structure Cls (K:PySem.W.Frag) (C:Addr):Prop where
  pg:PySem.W.plainGet K C Str.empty=true
  hd:PySem.W.hasDictIn K C=true
  po:PySem.W.plainOver K C=true
  sa:PySem.W.findIn K (.ref C) "__setattr__"=some (some (.builtin "object.__setattr__"))
theorem Cls.get {K:PySem.W.Frag} {C:Addr} (c:Cls K C) (f:Str):PySem.W.plainGet K C f=true:=c.pg
def NoAttr (K:PySem.W.Frag) (C:Addr) (f:Str):Prop:=PySem.W.findIn K (.ref C) f=some none
theorem NoAttr.taker {K:PySem.W.Frag} {C:Addr} {f:Str} (n:NoAttr K C f):PySem.W.takerIn K C f=some none:=by
  unfold PySem.W.takerIn
  rw [show PySem.W.findIn K (.ref C) f=some none from n]
  rfl
structure Meth (K:PySem.W.Frag) (C:Addr) (m:Str) (f:Addr):Prop where
  at_:PySem.W.findIn K (.ref C) m=some (some (.ref f))
  fn:PySem.W.isFn K (.ref f)=true
  kp:PySem.W.keepIn K (.ref f)=true
section
variable {X:Cx} {pins:List (Addr×Obj)} {σ:St} {H:Hp} {s:Shared} {a C dx:Addr} {fs:List (Str×V)} {f:Str} {v:V} {A:Around} {E:Value→Shared→Prop}
theorem nT {b:Bool} {Q:Value→Shared→Prop} (I:Inv X pins σ H s) (e:H a=some (.ins C dx fs)) (c:Cls X.K C) (n:NoAttr X.K C f) (l:fs.lookup f=some v)
    (h:∀u s',Inv X pins σ H s'→RelV v u→Q u s'):wpAny (model X.prog X.w) A (getAttr (.ref a) f b) Q E s:=by
  obtain ⟨mA,O,r,_,_,_⟩:=hM I.hok e
  obtain ⟨u,hu,ru⟩:=RelO.some_of (v:=v) (o:=mA f) (by rw [←l];exact r f)
  exact ub I.kIn O (c.get f) c.hd n hu (pL ru) (h u _ (I.tok _) ru)
theorem gV {m:Str} {g:Addr} {pl:Sem Bool} {Q:Value×List Value→Shared→Prop} (I:Inv X pins σ H s) (e:H a=some (.ins C dx fs)) (c:Cls X.K C) (k:Meth X.K C m g) (l:fs.lookup m=none)
    (h:Q (.ref g,[.ref a]) s):wpAny (model X.prog X.w) A (getMethod (.ref a) m pl) Q E s:=by
  obtain ⟨mA,O,r,_,_,_⟩:=hM I.hok e
  have hn:mA m=none:=RelO.none_of (by rw [←l];exact r m)
  exact qS I.kIn O (c.get m) k.at_ k.fn hn h
theorem nU {y:V} {u:Value} {Q:Unit→Shared→Prop} (I:Inv X pins σ H s) (e:H a=some (.ins C dx fs)) (c:Cls X.K C) (n:NoAttr X.K C f) (hl:fs.length < 1000) (ry:RelV y u)
    (h:∀s',Inv X pins σ (upd H a (.ins C dx (bL f y fs))) s'→Q () s'):wpAny (model X.prog X.w) A (setAttr (.ref a) f u) Q E s:=by
  obtain ⟨mA,O,r,wi,_,ho⟩:=hM I.hok e
  have hz:(fs.map (·.1)).length≤sizeLine:=by rw [List.length_map,sizeLine_eq];omega
  refine uc I.kIn O c.sa c.po n.taker c.hd wi hz fun h' O' sb=>h _ ?_
  have hd:∃o,h'.get? dx=some o:=let ⟨o,_,_,e',_⟩:=O'.ns;⟨o,e'⟩
  refine I.write (x:=a) (e:=dx) (by rw [e];exact True.intro) (.inr ho) (fun b q hb z=>(sb.2 b hb).trans z) hd ?_
  refine ⟨by rw [am O.ne];exact ho,?_,O.ne,O'.obj,_,O'.ns,fun g=>?_,fun g hg=>?_⟩
  · have:=gp f y fs;omega
  · show RelO ((bL f y fs).lookup g) (if g=f then some u else mA g)
    rw [aw]
    by_cases q:g=f
    · rw [if_pos q,if_pos q];exact ry
    · rw [if_neg q,if_neg q];exact r g
  · by_cases q:g=f
    · rw [q];exact (iF f y fs).1
    · refine (iF f y fs).2 g (wi g fun z=>hg ?_)
      show (if g=f then some u else mA g)=none
      rw [if_neg q];exact z
theorem Inv.made (I:Inv X pins σ H s):Inv X pins σ (upd (upd H s.heap.objs.size (.own (s.heap.objs.size+1))) (s.heap.objs.size+1) (.ins C s.heap.objs.size []))
    {s with heap:=(s.heap.push PySem.W.emptyDict).push (PySem.W.instObj C s.heap.objs.size)}:=by
  have e1:(s.heap.push PySem.W.emptyDict).get? s.heap.objs.size=some PySem.W.emptyDict:=Heap.get?_push_size s.heap rfl
  have e2:((s.heap.push PySem.W.emptyDict).push (PySem.W.instObj C s.heap.objs.size)).get? (s.heap.objs.size+1)=some (PySem.W.instObj C s.heap.objs.size):=by
    have:=Heap.get?_push_size (s.heap.push PySem.W.emptyDict) (o:=PySem.W.instObj C s.heap.objs.size) rfl
    rwa [Heap.size_push] at this
  have e3:(s.heap.push PySem.W.emptyDict).Ns s.heap.objs.size (fun _=>none):=⟨PySem.W.emptyDict,#[],_,e1,rfl,(fun e he=>absurd he (by simp)),fun _=>rfl⟩
  have I1:=I.laid (a:=s.heap.objs.size) (o:= .own (s.heap.objs.size+1)) (h':=s.heap.push PySem.W.emptyDict) (t':=s.toks) (fun b u q=>Heap.get?_push_of_some _ q) (Nat.le_refl _) ⟨_,e1⟩
  refine I1.laid (a:=s.heap.objs.size+1) (o:= .ins C s.heap.objs.size []) (t':=s.toks) (fun b u q=>Heap.get?_push_of_some _ q) (Nat.le_of_eq (Heap.size_push _ _)) ?_
  have ne:s.heap.objs.size≠s.heap.objs.size+1:=Nat.ne_of_lt (Nat.lt_succ_self _)
  refine ⟨by rw [am ne,upd_same],Nat.zero_le _,ne,e2,fun _=>none,(Heap.Ns1.of_empty e3).at fun o q=>Heap.get?_push_of_some _ q,fun _=>True.intro,fun y hy=>absurd rfl hy⟩
theorem ud {prog:Program} {w:World} {env:Env} {e:Expr} {f:Str} {pos:Pos} {s:Shared} {Q:Value→Shared→Prop} (hb:attributeBase e f env (eval e env)=eval e env)
    (h:wpAny (model prog w) A (eval e env) (fun o s₁=>wpAny (model prog w) A (getAttr o f true) Q E s₁) E s):wpAny (model prog w) A (eval (.Attribute e f pos) env) Q E s:=
  Attribute_any_ h (by rw [arm_eval_Attribute,hb])
end
def zf (K:PySem.W.Frag) (ta:TE) (f:Str):TE:=fun σ H Q=>ta σ H fun x H1=>∃a C dx fs v,x= .ref a∧H1 a=some (.ins C dx fs)∧Cls K C∧NoAttr K C f∧fs.lookup f=some v∧Q v H1
def iG (K:PySem.W.Frag) (ta tv:TE) (f:Str):TS:=fun D σ H=>tv σ H fun y H1=>ta σ H1 fun x H2=>∃a C dx fs,x= .ref a∧H2 a=some (.ins C dx fs)∧Cls K C∧NoAttr K C f∧fs.length < 1000∧
  D.nx σ (upd H2 a (.ins C dx (bL f y fs)))
section
variable {X:Cx} {o e value:Expr} {f:Str} {pos pos' tpos:Pos} {ta tv:TE}
theorem qU (he:PE X e ta) (hb:attributeBase e f X.env (eval e X.env)=eval e X.env):PE X (.Attribute e f pos) (zf X.K ta f):=by
  intro pins s σ H Q I h
  refine ud hb (cI (he pins s σ H _ I h) fun u s1 ⟨x,H1,I1,rx,a,C,dx,fs,v,ex,ea,c,n,l,q⟩=>?_)
  subst ex
  obtain rfl:u=Value.ref a:=rx
  exact nT I1 ea c n l fun u' s2 I2 ru=>⟨v,H1,I2,ru,q⟩
theorem ef (ha:PE X o ta) (hv:PE X value tv) (hs:swapsWith value (some (.Attribute o f pos')) pos.line X.env=pure false):PS X (.Assign [.Attribute o f pos'] value pos) (iG X.K ta tv f):=by
  intro pins s σ H D I h
  refine plainObj_wpAny_Assign_Attribute (cI (hv pins s σ H _ I h) fun u s1 ⟨y,H1,I1,ry,q⟩=>cI (ha pins s1 σ H1 _ I1 q) fun ov s2 ⟨x,H2,I2,rx,a,C,dx,fs,ex,ea,c,n,l,q2⟩=>?_) hs
  subst ex
  obtain rfl:ov=Value.ref a:=rx
  exact nU I2 ea c n l ry fun s3 I3=>⟨σ,_,I3,q2⟩
end
section
variable {X:Cx} {pins:List (Addr×Obj)} {σ:St} {H:Hp} {s:Shared} {A:Around} {E:Value→Shared→Prop} {Q:Value→Shared→Prop} {c:Value} {b:Bool}
inductive TyOf (K:PySem.W.Frag) (H:Hp):V→Value→Prop where
  | non:TyOf K H .non (.type "NoneType")
  | bl (x:Bool):TyOf K H (.bl x) (.type "bool")
  | int (i:Int):TyOf K H (.int i) (.type "int")
  | str (x:Str):TyOf K H (.str x) (.type "str")
  | flt (x:UInt64):TyOf K H (.flt x) (.type "float")
  | lst {a:Addr} {xs:List V} (e:H a=some (.lst xs)):TyOf K H (.ref a) (.type "list")
  | frz {a:Addr} {o:Obj} {xs:List V} (e:H a=some (.frz o (.lst xs))):TyOf K H (.ref a) (.type "list")
  | tup {a:Addr} {xs:List V} (e:H a=some (.tup xs)):TyOf K H (.ref a) (.type "tuple")
  | dK {a:Addr} {kvs:List (dG×V)} (e:H a=some (.dK kvs)):TyOf K H (.ref a) (.type "dict")
  | dT {a:Addr} {kvs:List (List dG×V)} (e:H a=some (.dT kvs)):TyOf K H (.ref a) (.type "dict")
  | ins {a C dx:Addr} {fs:List (Str×V)} (e:H a=some (.ins C dx fs)) (cl:Cls K C) (ha:PySem.W.findIn K (.ref C) "__class__"=some (some (.builtin "object.__class__")))
      (hn:PySem.W.specialIn K (.builtin "object.__class__") "__get__"=some (some (.builtin "getset_descriptor.__get__"))) (htk:PySem.W.takesIn K (.builtin "object.__class__")=some true)
      (hm:PySem.W.mroIn K C (.type "object")=some true):TyOf K H (.ref a) (.ref C)
theorem gI {x:V} {u t:Value} (I:Inv X pins σ H s) (rx:RelV x u) (ty:TyOf X.K H x t) (e:PySem.W.kitOne X.K t c=some b) (h:∀tk,Q (.bool b) {s with toks:=tk}):
    wpAny (model X.prog X.w) A (call (.builtin "isinstance") [u,c]) Q E s:=by
  cases ty with
  | non=>cases (show u=Value.none from rx);exact PySem.W.kia_one PySem.W.kitx_none I.kIn True.intro e (fun z=>nomatch z) h
  | bl y=>cases (show u=Value.bool y from rx);exact PySem.W.kia_one PySem.W.kitx_bool I.kIn True.intro e (fun z=>nomatch z) h
  | int i=>obtain ⟨t,q⟩:=(show ∃t,u=Value.int i t from rx);cases q;exact PySem.W.kia_one PySem.W.kitx_int I.kIn True.intro e (fun z=>nomatch z) h
  | str y=>obtain ⟨t,q⟩:=(show ∃t,u=Value.str y t from rx);cases q;exact PySem.W.kia_one PySem.W.kitx_str I.kIn True.intro e (fun z=>nomatch z) h
  | flt y=>obtain ⟨t,q⟩:=(show ∃t,u=Value.float y t from rx);cases q;exact PySem.W.kia_one PySem.W.kitx_float I.kIn True.intro e (fun z=>nomatch z) h
  | @lst a xs ea=>
    cases (show u=Value.ref a from rx)
    obtain ⟨_,_,n,_,h1⟩:=(show ObjOk X.prog X.w H s.heap a (.lst xs) from I.hok a _ ea)
    exact PySem.W.kia_one PySem.W.kitx_list I.kIn ⟨_,h1,rfl⟩ e (fun z=>nomatch z) h
  | @frz a ob xs ea=>
    cases (show u=Value.ref a from rx)
    obtain ⟨_,_,_,n,_,h1⟩:=(show ObjOk X.prog X.w H s.heap a (.frz ob (.lst xs)) from I.hok a _ ea)
    exact PySem.W.kia_one PySem.W.kitx_list I.kIn ⟨_,h1,rfl⟩ e (fun z=>nomatch z) h
  | @tup a xs ea=>
    cases (show u=Value.ref a from rx)
    obtain ⟨_,_,_,p⟩:=(show ObjOk X.prog X.w H s.heap a (.tup xs) from I.hok a _ ea)
    obtain ⟨o,h1,h2,_⟩:=p
    exact PySem.W.kia_one PySem.W.kitx_tuple I.kIn ⟨o,h1,h2⟩ e (fun z=>nomatch z) h
  | @dK a kvs ea=>
    cases (show u=Value.ref a from rx)
    obtain ⟨_,_,vs,_,p⟩:=(show ObjOk X.prog X.w H s.heap a (.dK kvs) from I.hok a _ ea)
    obtain ⟨o,es,ep,h1,h2,_⟩:=p
    exact PySem.W.kia_one PySem.W.kitx_dict I.kIn ⟨o,h1,h2.1⟩ e (fun z=>nomatch z) h
  | @dT a kvs ea=>
    cases (show u=Value.ref a from rx)
    obtain ⟨_,_,xs,_,o,es,ep,h1,h2,_⟩:=(show ObjOk X.prog X.w H s.heap a (.dT kvs) from I.hok a _ ea)
    exact PySem.W.kia_one PySem.W.kitx_dict I.kIn ⟨o,h1,h2.1⟩ e (fun z=>nomatch z) h
  | @ins a C dx fs ea cl ha hn htk hm=>
    cases (show u=Value.ref a from rx)
    obtain ⟨mA,O,_⟩:=hM I.hok ea
    obtain ⟨od,J,_⟩:=O.look
    exact PySem.W.kia_one (PySem.W.kitx_own (cl.get _) cl.hd ha hn htk hm) I.kIn J e (fun z=>nomatch z) h
end
end L2
namespace L2
open PySem PySem.Spec PyProof.Rows
structure Room (k:Nat) (A:Around):Prop where
  hd:A.handled=none
  dp:A.depth+3*k+5 < recursionLimit
  un:A.units+16*k+200 < cLine
theorem Room.mono {j k:Nat} {A:Around} (r:Room k A) (h:j≤k):Room j A:=⟨r.hd,by have:=r.dp;omega,by have:=r.un;omega⟩
theorem Room.deeper {k:Nat} {A:Around} (r:Room (k+1) A) (env:Env):Room k (A.deeper env):=
  ⟨r.hd,by have:=r.dp;show A.depth+1+3*k+5 < _;omega,by have:=r.un;show A.units+3+16*k+200 < _;omega⟩
theorem Room.in1 {k:Nat} {A:Around} (r:Room (k+1) A):Room k A.in1:=
  ⟨r.hd,by have:=r.dp;show A.depth+3*k+5 < _;omega,by have:=r.un;show A.units+1+16*k+200 < _;omega⟩
theorem nV {A:Around} {C:Addr} {us:List Value} {kw:List (Str×Value)}:(A.under (.builtin "type.__call__" ⟨.ref C::us,kw⟩)).depth=A.depth+1:=by
  first | rfl | simp [Around.under,Code.weight,Code.isCreation,Code.isGuard,Code.isCaller,Code.frames,Code.isFrame,guardIds]
theorem nW {A:Around} {C:Addr} {us:List Value} {kw:List (Str×Value)}:(A.under (.builtin "type.__call__" ⟨.ref C::us,kw⟩)).units=A.units+1:=by
  first | rfl | simp [Around.under,Code.cUnits,Code.frames,Code.isFrame]
theorem Room.make {k:Nat} {A:Around} (r:Room (k+1) A) (C:Addr) (us:List Value) (kw:List (Str×Value)):Room k (A.under (.builtin "type.__call__" ⟨.ref C::us,kw⟩)):=
  ⟨r.hd,by have:=r.dp;rw [nV];omega,by have:=r.un;rw [nW];omega⟩
theorem Room.depth {k:Nat} {A:Around} (r:Room k A):A.depth < recursionLimit:=by have:=r.dp;omega
theorem Room.units {k:Nat} {A:Around} (r:Room k A):A.units+64 < cLine:=by have:=r.un;omega
def qV:TA:=fun _ H Q=>Q [] H
def mI (ta:TE) (tr:TA):TA:=fun σ H Q=>ta σ H fun x H1=>tr σ H1 fun xs H2=>Q (x::xs) H2
section
variable {X:Cx} {e:Expr} {es:List Expr} {te:TE} {t:TA} {pos:Pos}
theorem cQ:PA X [] qV:=fun _ _ _ _ H Q I h=>Calls.spliced_nil ⟨[],H,I, .nil,h⟩
theorem bi (ha:PE X e te) (hr:PA X es t) (hs:starEach (e::es) X.env=(false,eval e X.env)::starEach es X.env:=by rfl):PA X (e::es) (mI te t):=by
  intro pos pins s σ H Q I h
  rw [hs]
  show wpAny _ _ (spliced ((false,eval e X.env)::backTo pos (starEach es X.env))) _ _ s
  refine Calls.spliced_cons (cI (ha pins s σ H _ I h) fun u s1 ⟨x,H1,I1,r1,q1⟩=>?_)
  exact cI (hr pos pins s1 σ H1 _ I1 q1) fun us s2 ⟨xs,H2,I2,r2,q2⟩=>⟨x::xs,H2,I2, .cons r1 r2,q2⟩
def zh (t:TA):TE:=fun σ H Q=>t σ H fun xs H1=>xs.length≤sizeLine∧∀p,H1 p=none→Q (.ref p) (upd H1 p (.tup xs))
def zi (t:TA):TE:=fun σ H Q=>t σ H fun xs H1=>xs.length≤sizeLine∧∀p,H1 p=none→Q (.ref p) (upd H1 p (.lst xs))
theorem we {x1} (h:PA X es t):PE X (.Tuple es x1 pos) (zh t):=by
  intro pins s σ H Q I hq
  refine wpAny_Tuple_spliced (cI (h pos pins s σ H _ I hq) fun us s1 ⟨xs,H1,I1,r,z,q⟩=>⟨by rw [←r.length];exact z,?_⟩)
  have hf:H1 s1.heap.objs.size=none:=I1.hok.fresh (Nat.le_refl _)
  refine ⟨.ref s1.heap.objs.size,upd H1 s1.heap.objs.size (.tup xs),I1.laid (t':=s1.toks) (fun b u e=>Heap.get?_push_of_some _ e) (Nat.le_refl _) ?_,rfl,q _ hf⟩
  exact ⟨z,us,r,⟨_,Heap.get?_push_size _ rfl,rfl,_,rfl⟩⟩
theorem wf (h:PA X es t):PE X (.List es pos) (zi t):=by
  intro pins s σ H Q I hq
  refine wpAny_List_spliced (cI (h pos pins s σ H _ I hq) fun us s1 ⟨xs,H1,I1,r,z,q⟩=>⟨by rw [←r.length];exact z,?_⟩)
  have hf:H1 s1.heap.objs.size=none:=I1.hok.fresh (Nat.le_refl _)
  refine ⟨.ref s1.heap.objs.size,upd H1 s1.heap.objs.size (.lst xs),I1.laid (t':=s1.toks) (fun b u e=>Heap.get?_push_of_some _ e) (Nat.le_refl _) ?_,rfl,q _ hf⟩
  exact ⟨z,us,0,r,Heap.get?_push_size _ rfl⟩
end
abbrev Sp:=List V→Hp→VK→XK→Prop
abbrev pM:=List Env→Hp→Shared→XK→Value→Shared→Prop
structure Env0 (P:Program) (w:World) (K:PySem.W.Frag) (mg:Str→Option Value) (base:Heap) (A:Around) (outer:List Env) (s:Shared) (H:Hp):Prop where
  frames:A.frames=some outer
  mod:Mod K mg base
  bs:∀b o,base.get? b=some o→s.heap.get? b=some o∧H b=none
  bsz:base.objs.size≤s.heap.objs.size
  funs:s.heap.FunFrames base outer
  frf:∀b∈jf outer,H b=none
  hok:HOk P w H s.heap
  bare:AllBare s.gens
  tab:∀b q,jy K b=some q→H b=some (.tbl q)
def CE (outer:List Env) (P:Program) (w:World) (H:Hp) (s:Shared) (Q:VK) (u:Value) (s':Shared):Prop:=
  ∃v H',s'.os=s.os∧AllBare s'.gens∧Un (jf outer) [] H H' s.heap s'.heap∧HOk P w H' s'.heap∧RelV v u∧Q v H'
def CR (CX:pM) (outer:List Env) (P:Program) (w:World) (H:Hp) (s:Shared) (Q:VK) (E:XK) (r:Result) (s':Shared):Prop:=
  match r with
  | .ok (.ret u)=>CE outer P w H s Q u s'
  | .ok _=>False
  | .error e=>CX outer H s E e s'
structure FnOk (P:Program) (w:World) (K:PySem.W.Frag) (mg:Str→Option Value) (base:Heap) (CX:pM) (k:Nat) (f:Addr) (fd:FuncData) (ps:List Str) (sp:Sp):Prop where
  len:∀vs H Q E,sp vs H Q E→vs.length=ps.length
  run:∀(A:Around) (outer:List Env) (s:Shared) (H:Hp) (args:Args) (us:List Value) (vs:List V) (Q:VK) (E:XK),Room k A→Env0 P w K mg base A outer s H→BindsTo s fd args (ps.zip us)→Vals vs us→sp vs H Q E→
    codeAny (model P w) A (.call (.ref f) args) (CR CX outer P w H s Q E) s
theorem FnOk.mono {P:Program} {w:World} {K:PySem.W.Frag} {mg:Str→Option Value} {base:Heap} {CX:pM} {j k:Nat} {f:Addr} {fd:FuncData} {ps:List Str} {sp:Sp} (F:FnOk P w K mg base CX j f fd ps sp) (h:j≤k):
    FnOk P w K mg base CX k f fd ps sp:=⟨F.len,fun A outer s H args us vs Q E hr=>F.run A outer s H args us vs Q E (hr.mono h)⟩
theorem FnOk.imp {P:Program} {w:World} {K:PySem.W.Frag} {mg:Str→Option Value} {base:Heap} {CX:pM} {k:Nat} {f:Addr} {fd:FuncData} {ps:List Str} {sp sp':Sp} (F:FnOk P w K mg base CX k f fd ps sp)
    (h:∀vs H Q E,sp' vs H Q E→sp vs H Q E):FnOk P w K mg base CX k f fd ps sp':=
  ⟨fun vs H Q E q=>F.len vs H Q E (h _ _ _ _ q),fun A outer s H args us vs Q E hr he hb hv hs=>F.run A outer s H args us vs Q E hr he hb hv (h _ _ _ _ hs)⟩
theorem Env0.make {P:Program} {w:World} {K:PySem.W.Frag} {mg:Str→Option Value} {base:Heap} {A:Around} {outer:List Env} {s:Shared} {H:Hp} (e:Env0 P w K mg base A outer s H) (C:Addr) (us:List Value) (kw:List (Str×Value)):
    Env0 P w K mg base (A.under (.builtin "type.__call__" ⟨.ref C::us,kw⟩)) outer s H:=⟨by first | exact e.frames | (simpa [Around.under,Code.envs,Code.isFrame,pushEnvs] using e.frames),e.mod,e.bs,e.bsz,e.funs,e.frf,e.hok,e.bare,e.tab⟩
theorem Env0.in1 {P:Program} {w:World} {K:PySem.W.Frag} {mg:Str→Option Value} {base:Heap} {A:Around} {outer:List Env} {s:Shared} {H:Hp} (e:Env0 P w K mg base A outer s H):
    Env0 P w K mg base A.in1 outer s H:=⟨e.frames,e.mod,e.bs,e.bsz,e.funs,e.frf,e.hok,e.bare,e.tab⟩
section
variable {X:Cx} {pins:List (Addr×Obj)} {σ:St} {H:Hp} {s s':Shared}
theorem Inv.env0 (I:Inv X pins σ H s):Env0 X.prog X.w X.K X.mg X.base X.A X.stack s H:=
  ⟨I.ok.frames,I.ok.mod,I.bs,Nat.le_trans I.ok.bsz I.sz,I.stack,I.stkFree,I.hok,I.bare,I.tab⟩
theorem Inv.after {Q:VK} {u:Value} (I:Inv X pins σ H s) (h:CE X.stack X.prog X.w H s Q u s'):EP X pins σ Q u s':=by
  obtain ⟨v,H',os,bare,un,hok,r,q⟩:=h
  obtain ⟨hh,g,d,t,os'⟩:=s'
  obtain rfl:os'=s.os:=os
  exact ⟨v,H',I.call (h':=hh) (g':=g) (d':=d) (t':=t) (ch:=[]) un hok bare (fun b z=>absurd z (by simp)),r,q⟩
end
def vp (sp:Sp) (dvs:List V) (E:XK) (t:TA):TE:=fun σ H Q=>t σ H fun vs H1=>sp (vs++dvs) H1 Q E
def xY (C:Addr) (sp:Sp) (dvs:List V) (E:XK) (t:TA):TE:=fun σ H Q=>t σ H fun vs H1=>∀x dx,H1 x=none→H1 dx=none→dx≠x→
  sp (.ref x::(vs++dvs)) (upd (upd H1 dx (.own x)) x (.ins C dx [])) (fun v H2=>v= .non∧Q (.ref x) H2) E
def Binds (K:PySem.W.Frag) (fd:FuncData) (ps:List Str) (ds:List Value):Prop:=
  ∀(s:Shared) (us:List Value),K.In s.heap→(us++ds).length=ps.length→BindsTo s fd ⟨us,[]⟩ (ps.zip (us++ds))
theorem Binds.all {K:PySem.W.Frag} {fd:FuncData} {ps:List Str} (h:∀us:List Value,us.length=ps.length→bindArgs fd ⟨us,[]⟩=pure (ps.zip us)):Binds K fd ps []:=fun s us _ hl=>by
  rw [List.append_nil] at hl ⊢
  exact .of_eq (h us hl)
def jG (CX:pM) (X:Cx) (E:XK):Prop:=∀(pins:List (Addr×Obj)) (σ:St) (H:Hp) (s:Shared) (e:Value) (s':Shared),Inv X pins σ H s→CX X.stack H s E e s'→X.xe e s'
section
variable {X:Cx} {CX:pM} {k:Nat} {f C:Addr} {fd:FuncData} {ps:List Str} {sp:Sp} {dvs:List V} {ds:List Value} {E:XK} {x m:Str} {p pos apos:Pos} {e o:Expr} {es:List Expr} {ta:TE} {t:TA}
theorem nX {pins:List (Addr×Obj)} {σ:St} {H:Hp} {s:Shared} {Q:VK} {us:List Value} {vs:List V} (F:FnOk X.prog X.w X.K X.mg X.base CX k f fd ps sp) (hr:Room k X.A) (hb:Binds X.K fd ps ds) (hd:Vals dvs ds) (hx:jG CX X E)
    (I:Inv X pins σ H s) (r:Vals vs us) (h:sp (vs++dvs) H Q E):wpAny (model X.prog X.w) X.A (call (.ref f) us) (EP X pins σ Q) X.xe s:=by
  have r2:Vals (vs++dvs) (us++ds):=r.append hd
  have hl:(us++ds).length=ps.length:=by rw [←r2.length];exact F.len _ _ _ _ h
  refine wpAny_call (codeAny_mono (F.run X.A X.stack s H ⟨us,[]⟩ (us++ds) (vs++dvs) Q E hr I.env0 (hb s us I.kIn hl) r2 h) fun r s' hq=>?_)
  cases r with
  | error e=>exact hx pins σ H s e s' I hq
  | ok fl=>
    cases fl with
    | ret u=>exact I.after hq
    | next=>exact False.elim hq
    | brk=>exact False.elim hq
    | cont=>exact False.elim hq
theorem ue (F:FnOk X.prog X.w X.K X.mg X.base CX k f fd ps sp) (hr:Room k X.A) (hg:Gl X x) (hm:X.mg x=some (.ref f)) (hk:PySem.W.keepIn X.K (.ref f)=true) (hb:Binds X.K fd ps ds) (hd:Vals dvs ds) (hx:jG CX X E)
    (ha:PA X (e::es) t) (hdb:(x == ("__debug__":Str))=false:=by decide) (he:starEach (e::es) X.env=(false,eval e X.env)::starEach es X.env:=by rfl) (hpl:(backTo pos (starEach es X.env)).any (·.1)=false:=by rfl):
    PE X (.Call (.Name x p) (e::es) [] pos) (vp sp dvs E t):=by
  intro pins s σ H Q I h
  refine wpAny_Call_Name_kw (gG I hg hm ?_ hdb)
  refine PySem.W.callWith_K (h₀:=X.base) I.ok.mod.kin hk (cI (ha pos pins s σ H _ I h) fun us s1 ⟨vs,H1,I1,r,q⟩=>⟨I1.kIn,?_⟩) he hpl
  exact nX F hr hb hd hx I1 r q
structure Mk (K:PySem.W.Frag) (C f:Addr):Prop where
  makes:PySem.W.makesIn K C=true
  init:PySem.W.findIn K (.ref C) "__init__"=some (some (.ref f))
  fn:PySem.W.isFn K (.ref f)=true
  kp:PySem.W.keepIn K (.ref C)=true
theorem qW {pins:List (Addr×Obj)} {σ:St} {H:Hp} {s:Shared} {Q:VK} {us:List Value} {vs:List V} (M:Mk X.K C f) (F:FnOk X.prog X.w X.K X.mg X.base CX k f fd ps sp) (hr:Room (k+1) X.A) (hb:Binds X.K fd ps ds) (hd:Vals dvs ds)
    (hx:jG CX X E) (I:Inv X pins σ H s) (r:Vals vs us)
    (h:∀x dx,H x=none→H dx=none→dx≠x→sp (.ref x::(vs++dvs)) (upd (upd H dx (.own x)) x (.ins C dx [])) (fun v H2=>v= .non∧Q (.ref x) H2) E):
    wpAny (model X.prog X.w) X.A (call (.ref C) us) (EP X pins σ Q) X.xe s:=by
  have hq:=h (s.heap.objs.size+1) s.heap.objs.size (I.hok.fresh (Nat.le_succ _)) (I.hok.fresh (Nat.le_refl _)) (Nat.ne_of_lt (Nat.lt_succ_self _))
  have I2:=Inv.made (C:=C) I
  have r2:Vals (V.ref (s.heap.objs.size+1)::(vs++dvs)) (Value.ref (s.heap.objs.size+1)::(us++ds)):= .cons rfl (r.append hd)
  have hl:(Value.ref (s.heap.objs.size+1)::us++ds).length=ps.length:=by
    have e:=r2.length
    rw [F.len _ _ _ _ hq] at e
    exact e.symm
  refine wpAny_call (qT (f:=f) I.kIn M.makes M.init (beq_iff_eq.mp M.fn) (codeAny_mono (F.run _ X.stack _ _ ⟨Value.ref (s.heap.objs.size+1)::us,[]⟩ (Value.ref (s.heap.objs.size+1)::(us++ds)) _ _ E (hr.make C us [])
    (I2.env0.make C us []) (hb _ (Value.ref (s.heap.objs.size+1)::us) I2.kIn hl) r2 hq) fun r s' hq'=>?_))
  cases r with
  | error e=>exact hx pins σ _ _ e s' I2 hq'
  | ok fl=>
    cases fl with
    | ret u=>
      obtain ⟨v,H',I3,rv,ev,q3⟩:=I2.after hq'
      subst ev
      exact ⟨rv,⟨V.ref (s.heap.objs.size+1),H',I3,rfl,q3⟩⟩
    | next=>exact False.elim hq'
    | brk=>exact False.elim hq'
    | cont=>exact False.elim hq'
theorem uf (M:Mk X.K C f) (F:FnOk X.prog X.w X.K X.mg X.base CX k f fd ps sp) (hr:Room (k+1) X.A) (hg:Gl X x) (hm:X.mg x=some (.ref C)) (hb:Binds X.K fd ps ds) (hd:Vals dvs ds) (hx:jG CX X E)
    (ha:PA X (e::es) t) (hdb:(x == ("__debug__":Str))=false:=by decide) (he:starEach (e::es) X.env=(false,eval e X.env)::starEach es X.env:=by rfl) (hpl:(backTo pos (starEach es X.env)).any (·.1)=false:=by rfl):
    PE X (.Call (.Name x p) (e::es) [] pos) (xY C sp dvs E t):=by
  intro pins s σ H Q I h
  refine wpAny_Call_Name_kw (gG I hg hm ?_ hdb)
  refine PySem.W.callWith_K (h₀:=X.base) I.ok.mod.kin M.kp (cI (ha pos pins s σ H _ I h) fun us s1 ⟨vs,H1,I1,r,q⟩=>⟨I1.kIn,?_⟩) he hpl
  exact qW M F hr hb hd hx I1 r q
end
structure FnScope (N P:List Str) (sc:Scope):Prop where
  kind:sc.kind= .function
  co:sc.isCoroutine=false
  gen:sc.isGenerator=false
  nd:N.Nodup
  pre:N.take P.length=P
  par:∀x∈P,sc.names.lookup x=some .local∨sc.names.lookup x=some .cell
  nofree:∀y∈sc.names,y.2≠ .free
theorem kH {kindOf:Str→Option NameKind} {x:Str}:∀{binds:List (Str×Value)} {m:Str→Option Value},(∀v,(x,v)∉binds)→bindL kindOf binds m x=m x
  | [],_,_=>rfl
  | (n,v)::r,m,h=>by
    unfold bindL
    rw [kH fun w hw=>h w (List.mem_cons_of_mem _ hw)]
    split
    · have:x≠n:=by rintro rfl;exact h v List.mem_cons_self
      simp [this]
    · rfl
theorem kI {kindOf:Str→Option NameKind} {x:Str}:∀{binds:List (Str×Value)} {m:Str→Option Value},(∀v,(x,v)∉binds)→bindC kindOf binds m x=m x
  | [],_,_=>rfl
  | (n,v)::r,m,h=>by
    unfold bindC
    rw [kI fun w hw=>h w (List.mem_cons_of_mem _ hw)]
    split
    · rfl
    · have:x≠n:=by rintro rfl;exact h v List.mem_cons_self
      simp [this]
theorem kJ {kindOf:Str→Option NameKind} {x:Str} {v:Value}:∀{P:List Str} {vs:List Value} {i:Nat} {m:Str→Option Value},P.Nodup→P[i]? =some x→vs[i]? =some v→kindOf x=some .local→
    bindL kindOf (P.zip vs) m x=some v
  | [],_,_,_,_,h,_,_=>by simp at h
  | _::_,[],_,_,_,_,h,_=>by simp at h
  | p::P,w::vs,0,m,nd,h1,h2,hk=>by
    simp at h1 h2;subst h1;subst h2
    show bindL kindOf ((p,w)::P.zip vs) m p=_
    unfold bindL
    rw [kH fun v hv=>(List.nodup_cons.mp nd).1 (List.of_mem_zip hv).1,if_pos hk]
    simp
  | p::P,w::vs,i+1,m,nd,h1,h2,hk=>by
    show bindL kindOf ((p,w)::P.zip vs) m x=_
    unfold bindL
    exact kJ (i:=i) (List.nodup_cons.mp nd).2 (by simpa using h1) (by simpa using h2) hk
theorem kK {kindOf:Str→Option NameKind} {x:Str} {v:Value}:∀{P:List Str} {vs:List Value} {i:Nat} {m:Str→Option Value},P.Nodup→P[i]? =some x→vs[i]? =some v→kindOf x≠some .local→
    bindC kindOf (P.zip vs) m x=some v
  | [],_,_,_,_,h,_,_=>by simp at h
  | _::_,[],_,_,_,_,h,_=>by simp at h
  | p::P,w::vs,0,m,nd,h1,h2,hk=>by
    simp at h1 h2;subst h1;subst h2
    show bindC kindOf ((p,w)::P.zip vs) m p=_
    unfold bindC
    rw [kI fun v hv=>(List.nodup_cons.mp nd).1 (List.of_mem_zip hv).1,if_neg hk]
    simp
  | p::P,w::vs,i+1,m,nd,h1,h2,hk=>by
    show bindC kindOf ((p,w)::P.zip vs) m x=_
    unfold bindC
    exact kK (i:=i) (List.nodup_cons.mp nd).2 (by simpa using h1) (by simpa using h2) hk
def cy (N:List Str) (vs:List V):St:=vs.map some++List.replicate (N.length - vs.length) none
def gq (CX:pM) (P:Program) (w:World) (K:PySem.W.Frag) (mg:Str→Option Value) (base:Heap) (N:List Str) (qual:Str) (scope:Scope) (f:Addr) (cd:Value) (A:Around) (outer:List Env) (s:Shared) (H:Hp) (E:XK):Cx where
  prog:=P
  w:=w
  K:=K
  mg:=mg
  base:=base
  A:=A.deeper (envOfC qual scope s.heap.objs.size f cd)
  N:=N
  s₀:=s
  H₀:=H
  env:=envOfC qual scope s.heap.objs.size f cd
  outer:=outer
  stack:=envOfC qual scope s.heap.objs.size f cd::outer
  ex:=[]
  calm:=true
  fn:=fun _=>true
  pn:=[]
  xe:=fun e s'=>wpAny (model P w) (A.deeper (envOfC qual scope s.heap.objs.size f cd)) (leaving (envOfC qual scope s.heap.objs.size f cd) e) (fun _ s''=>CX outer H s E e s'') (fun e' s''=>CX outer H s E e' s'') s'
theorem mJ {sc:Scope} {n:Nat} {x:Str} (h:sc.names.lookup x=some .cell):∃c,(cellsFrom n sc.names []).lookup x=some c:=by
  have q:=PySem.W.cellsFrom_some sc.names n [] (.inl h)
  exact Option.isSome_iff_exists.mp q
theorem pN {CX:pM} {P:Program} {w:World} {K:PySem.W.Frag} {mg:Str→Option Value} {base:Heap} {N ps:List Str} {qual:Str} {scope:Scope} {f:Addr} {cd:Value} {A:Around} {outer:List Env} {s s1:Shared} {H:Hp} {E:XK} {us:List Value} {vs:List V}
    (S:FnScope N ps scope) (hd:A.handled=none) (e0:Env0 P w K mg base A outer s H) (hl:vs.length=ps.length) (r:Vals vs us)
    (x:InCallC s s.heap.objs.size (bindL (envOfC qual scope s.heap.objs.size f cd).kindOf (ps.zip us) fun _=>none) (cellsFrom (s.heap.objs.size+1) scope.names []) (bindC (envOfC qual scope s.heap.objs.size f cd).kindOf (ps.zip us) fun _=>none) s1):
    Inv (gq CX P w K mg base N qual scope f cd A outer s H E) [] (cy N vs) H s1:=by
  have hpl:ps.length≤N.length:=by have:=congrArg List.length S.pre;rw [List.length_take] at this;omega
  obtain ⟨h1,tk,rfl,hk⟩:=x.done
  have noA:∀b:Addr,b∉(gq CX P w K mg base N qual scope f cd A outer s H E).ex:=fun b z=>absurd (show b∈([]:List Addr) from z) (by simp)
  refine ⟨⟨e0.mod,S.kind,rfl,rfl,Nat.le_refl _,fun y z c h1 h2=>?_,fun y hy=>?_,fun y c _ h=>?_,fun _=>hd,Around.frames_deeper e0.frames, .inr ⟨rfl,rfl⟩,fun b z=>absurd z (noA b),e0.bs,e0.bsz,fun b _ _=>noA b,fun b z=>absurd z (noA b),e0.funs,e0.frf,e0.tab⟩,
    rfl,e0.bare,Un.kept hk,⟨_,x.toInCall.ns,fun i y v h1 h2 h3=>?_⟩,fun y c h=>⟨_,x.cell y c h⟩,e0.hok.fresh (Nat.le_refl _),fun y c h=>?_,fun p hp=>absurd (show p∈([]:List (Addr×Obj)) from hp) (by simp),e0.hok.kept hk,?_⟩
  · exact name_of_addr x.apart (PySem.mem_of_lookup h1) (PySem.mem_of_lookup h2)
  · have hy:scope.names.lookup y=some .cell∨scope.names.lookup y=some .free:=hy
    rcases hy with hy | hy
    · exact mJ hy
    · exact absurd rfl (S.nofree _ (PySem.mem_of_lookup hy))
  · exact Nat.le_of_lt (x.above y c (PySem.mem_of_lookup h))
  · have hi:i < vs.length:=by
      unfold cy at h2
      by_cases hi:i < vs.length
      · exact hi
      · rw [List.getElem?_append_right (by simpa using hi)] at h2
        rw [List.getElem?_replicate] at h2
        split at h2 <;> cases h2
    have ha:vs[i]? =some v:=by
      unfold cy at h2
      rw [List.getElem?_append_left (by simpa using hi),List.getElem?_map] at h2
      cases e:vs[i]? with
      | none=>rw [e] at h2;cases h2
      | some a=>rw [e] at h2;cases h2;rfl
    obtain ⟨u,hu,rv⟩:=r.get ha
    have hp:ps[i]? =some y:=by
      rw [←S.pre,List.getElem?_take_of_lt (by omega)];exact h1
    have ndP:ps.Nodup:=by rw [←S.pre];exact S.nd.sublist (List.take_sublist _ _)
    refine ⟨u,rv,?_⟩
    rcases S.par y (List.mem_of_getElem? hp) with k | k
    · exact .inl ⟨k,kJ ndP hp hu k⟩
    · obtain ⟨c,e⟩:=mJ (n:=s.heap.objs.size+1) k
      refine .inr ⟨.inl k,c,e,?_⟩
      have q:=x.cell y c e
      rw [kK ndP hp hu (by show scope.names.lookup y≠_;rw [k];decide)] at q
      exact q
  · exact e0.hok.fresh (Nat.le_of_lt (x.above y c (PySem.mem_of_lookup h)))
  · unfold cy
    show _=N.length
    rw [List.length_append,List.length_map,List.length_replicate]
    omega
theorem vq {CX:pM} {P:Program} {w:World} {K:PySem.W.Frag} {mg:Str→Option Value} {base:Heap} {k:Nat} {f:Addr} {name qual:Str} {params:Arguments} {body:List Stmt} {scope:Scope} {dV kV doc pm cdv ct oc:Value} {an od:Option Addr}
    {osl:Array (Option Value)} {N ps:List Str} {sp:Sp} (lk:K.lookup f=some ⟨oc,od, .func (PySem.W.fnOf name qual params body scope dV kV doc pm an cdv ct),osl⟩) (hcd:PySem.W.codeIn K cdv qual=true) (S:FnScope N ps scope)
    (len:∀vs H Q E,sp vs H Q E→vs.length=ps.length)
    (hbody:∀(A:Around) (outer:List Env) (s:Shared) (H:Hp) (vs:List V) (Q:VK) (E:XK),Room k (A.deeper (envOfC qual scope s.heap.objs.size f cdv))→sp vs H Q E→
      ∃t,PSs (gq CX P w K mg base N qual scope f cdv A outer s H E) body t∧t {nx:=fun _ H'=>Q .non H',rt:=Q} (cy N vs) H):
    FnOk P w K mg base CX (k+1) f (PySem.W.fnOf name qual params body scope dV kV doc pm an cdv ct) ps sp:=by
  refine ⟨len,fun A outer s H args us vs Q E hr e0 hb r hsp=>?_⟩
  have hl:=len _ _ _ _ hsp
  have KX:K.In s.heap:=e0.mod.kin.keeps fun b o e=>(e0.bs b o e).1
  have lim:s.heap.NoLimit:=e0.mod.nolimit.keeps fun b o e=>(e0.bs b o e).1
  have hkind:∀y∈ps.zip us,scope.names.lookup y.1=some .local∨(scope.names.lookup y.1=some .cell∧((cellsFrom (s.heap.objs.size+1) scope.names []).lookup y.1).isSome=true):=fun ⟨n,v⟩ hy=>by
    rcases S.par n (List.of_mem_zip hy).1 with q | q
    · exact .inl q
    · exact .inr ⟨q,PySem.W.cellsFrom_some _ _ _ (.inl q)⟩
  refine codeAny_call_function hr.depth (KX _ _ lk) rfl S.co S.gen rfl (PySem.W.codeRec_of KX hcd) (hb _ _ _ _ ?_)
  refine wpAny_newFunctionEnv_cells S.kind hkind fun env he s1 x=>?_
  subst he
  refine ⟨lim.keeps x.toInCall.keep,codeAny_func ?_⟩
  obtain ⟨t,ht,hq⟩:=hbody A outer s H vs Q E (hr.deeper _) hsp
  have I:Inv (gq CX P w K mg base N qual scope f cdv A outer s H E) [] (cy N vs) H s1:=pN S hr.hd e0 hl r x
  refine wpAny_mono (ht [] s1 (cy N vs) H _ I hq) (fun fl s' hs=>?_) fun e s' hs=>hs
  have fin:∀{σ':St} {H':Hp} {v:V} {u:Value},Inv (gq CX P w K mg base N qual scope f cdv A outer s H E) [] σ' H' s'→RelV v u→Q v H'→CE outer P w H s Q u s':=
    fun {σ' H' v u} J rv q=>⟨v,H',J.os,J.bare,J.base,J.hok,rv,q⟩
  cases fl with
  | ret u=>
    obtain ⟨v,σ',H',J,rv,q⟩:=hs
    exact fin J rv q
  | next=>
    obtain ⟨σ',H',J,q⟩:=hs
    exact fin (v:=V.non) (u:=Value.none) J rfl q
  | brk=>
    obtain ⟨_,_,_,q⟩:=hs
    exact False.elim q
  | cont=>
    obtain ⟨_,_,_,q⟩:=hs
    exact False.elim q
end L2
namespace L2
open PySem PySem.Spec PyProof.Rows
section
variable {X:Cx} {x:Str} {p pos:Pos} {e:Expr} {es:List Expr} {t:TA} {id T:String} {r:List V→Hp→VK→Prop}
def wg (r:List V→Hp→VK→Prop) (t:TA):TE:=fun σ H Q=>t σ H fun vs H1=>r vs H1 Q
theorem eZ (hc:CallR X (.builtin id) r) (hg:Gl X x) (hm:X.mg x=none) (hv:bootBuiltins x=some (.builtin id)) (ha:PA X (e::es) t) (hn:x≠"__name__":=by decide) (hdb:(x == ("__debug__":Str))=false:=by decide)
    (he:starEach (e::es) X.env=(false,eval e X.env)::starEach es X.env:=by rfl) (hpl:(backTo pos (starEach es X.env)).any (·.1)=false:=by rfl):PE X (.Call (.Name x p) (e::es) [] pos) (wg r t):=by
  intro pins s σ H Q I h
  refine wpAny_Call_Name_kw (iE I hg hm hv ?_ hn hdb)
  exact PyProof.Rows.callWith_builtin1 (cI (ha pos pins s σ H _ I h) fun us s1 ⟨vs,H1,I1,r1,q1⟩=>hc pins s1 σ H1 vs us Q I1 r1 q1) he hpl
theorem gJ (hc:CallR X (.type T) r) (hg:Gl X x) (hm:X.mg x=none) (hv:bootBuiltins x=some (.type T)) (ha:PA X (e::es) t) (hn:x≠"__name__":=by decide) (hdb:(x == ("__debug__":Str))=false:=by decide)
    (he:starEach (e::es) X.env=(false,eval e X.env)::starEach es X.env:=by rfl) (hpl:(backTo pos (starEach es X.env)).any (·.1)=false:=by rfl):PE X (.Call (.Name x p) (e::es) [] pos) (wg r t):=by
  intro pins s σ H Q I h
  refine wpAny_Call_Name_kw (iE I hg hm hv ?_ hn hdb)
  exact PyProof.Rows.callWith_type1 (cI (ha pos pins s σ H _ I h) fun us s1 ⟨vs,H1,I1,r1,q1⟩=>hc pins s1 σ H1 vs us Q I1 r1 q1) he hpl
end
end L2
namespace HT
open PySem PyProof.Rows
section
open PySem.SeqAt
open PySem.AutoSeq1 (wpAny_loadPart')
open PySem.MeetsSeq PySem.MeetsSeq2 PySem.MeetsSeq3
end
end HT
namespace L2
open PySem PySem.Spec PyProof.Rows
abbrev TO:=St→Hp→(Option Int→Hp→Prop)→Prop
section
variable {X:Cx} {e:Expr} {te:TE} {lo hi:Option Expr} {tl th:TO} {pos p2:Pos}
def SlR (X:Cx) (r:V→Option Int→Option Int→Hp→VK→Prop):Prop:=
  ∀(pins:List (Addr×Obj)) (s:Shared) (σ:St) (H:Hp) (x:V) (v vl vu:Value) (lo hi:Option Int) (sl:Addr) (Q:VK),Inv X pins σ H s→RelV x v→s.heap.IsSliceOf sl vl vu .none→IsPart vl lo→IsPart vu hi→r x lo hi H Q→
    ∃T id,typeLookup (.type T) "__getitem__"=pure (some (.builtin id))∧s.TypeIs v T∧wpAny (model X.prog X.w) X.A (getItem v (.ref sl)) (EP X pins σ Q) X.xe s
theorem SlR.or {r r':V→Option Int→Option Int→Hp→VK→Prop} (h:SlR X r) (h':SlR X r'):SlR X (fun x lo hi H Q=>r x lo hi H Q∨r' x lo hi H Q):=by
  intro pins s σ H x v vl vu lo hi sl Q I rx hs pl pu q
  rcases q with q | q
  · exact h pins s σ H x v vl vu lo hi sl Q I rx hs pl pu q
  · exact h' pins s σ H x v vl vu lo hi sl Q I rx hs pl pu q
end
end L2
namespace L2
open PySem PySem.Spec PyProof.Rows
def xC (n:Nat) (i:Int):Option Nat:=if 0≤i then (if i < n then some i.toNat else none) else if -(n:Int)≤i then some (i+n).toNat else none
def atI {α:Type} (xs:List α) (i:Int):Option α:=(xC xs.length i).bind fun j=>xs[j]?
theorem oS {n:Nat} {i:Int} {j:Nat} (h:xC n i=some j):seqIndex? i n=some j∧j < n∧ -(n:Int)≤i∧i < n:=by
  unfold xC at h
  by_cases h0:0≤i
  · rw [if_pos h0] at h
    by_cases h1:i < n
    · rw [if_pos h1] at h
      have e:i.toNat=j:=Option.some.inj h
      exact ⟨by rw [seqIndex_of h0 h1,e],by omega,by omega,h1⟩
    · rw [if_neg h1] at h;cases h
  · rw [if_neg h0] at h
    by_cases h1: -(n:Int)≤i
    · rw [if_pos h1] at h
      have e:(i+n).toNat=j:=Option.some.inj h
      exact ⟨by rw [seqIndex_neg (by omega) h1,e],by omega,h1,by omega⟩
    · rw [if_neg h1] at h;cases h
theorem lx {α:Type} {xs:List α} {i:Int} {v:α} (h:atI xs i=some v):∃j,seqIndex? i xs.length=some j∧xs[j]? =some v∧j < xs.length∧ -(xs.length:Int)≤i∧i < xs.length:=by
  unfold atI at h
  cases e:xC xs.length i with
  | none=>rw [e] at h;cases h
  | some j=>
    rw [e] at h
    obtain ⟨h1,h2,h3,h4⟩:=oS e
    exact ⟨j,h1,h,h2,h3,h4⟩
def oT (b:Expr):Prop:=∀o i,subscripted b false o i=operate [o,i] (getItem o i)
def IxR (X:Cx) (r:R2):Prop:=
  ∀(value slice:Expr) (pins:List (Addr×Obj)) (s:Shared) (σ:St) (H:Hp) (x y:V) (v u:Value) (Q:VK),Inv X pins σ H s→RelV x v→RelV y u→r x y H Q→
    subscripted slice false v u=operate [v,u] (getItem v u)→wpAny (model X.prog X.w) X.A (subscriptTail value slice v u) (EP X pins σ Q) X.xe s
def MtR (X:Cx) (id:String) (r:V→List V→Hp→VK→Prop):Prop:=
  ∀(pins:List (Addr×Obj)) (s:Shared) (σ:St) (H:Hp) (x:V) (xs:List V) (v:Value) (us:List Value) (Q:VK),Inv X pins σ H s→RelV x v→Vals xs us→r x xs H Q→
    wpAny (model X.prog X.w) X.A (call (.builtin id) (v::us)) (EP X pins σ Q) X.xe s
section
variable {X:Cx} {a b:Expr} {ta tb:TE} {pos:Pos}
theorem IxR.or {r r':R2} (h:IxR X r) (h':IxR X r'):IxR X (fun x y H Q=>r x y H Q∨r' x y H Q):=by
  intro value slice pins s σ H x y v u Q I rx ry q hs
  rcases q with q | q
  · exact h value slice pins s σ H x y v u Q I rx ry q hs
  · exact h' value slice pins s σ H x y v u Q I rx ry q hs
theorem MtR.or {id:String} {r r':V→List V→Hp→VK→Prop} (h:MtR X id r) (h':MtR X id r'):MtR X id (fun x xs H Q=>r x xs H Q∨r' x xs H Q):=by
  intro pins s σ H x xs v us Q I rx rs q
  rcases q with q | q
  · exact h pins s σ H x xs v us Q I rx rs q
  · exact h' pins s σ H x xs v us Q I rx rs q
theorem qX {r:R2} (hr:IxR X r) (ha:PE X a ta) (hb:PE X b tb) (hs:oT b):PE X (.Subscript a b pos) (vk r ta tb):=by
  intro pins s σ H Q I h
  exact Subscript_ (v9 ha hb I h fun v u s2 x y H2 I2 rx ry q=>hr a b pins s2 σ H2 x y v u Q I2 rx ry q (hs _ _))
def xZ (K:PySem.W.Frag):R2:=fun x y H Q=>∃p xs i v,x= .ref p∧y= .int i∧SqL K H p xs∧atI xs i=some v∧Q v H
def x_ (K:PySem.W.Frag):R2:=fun x y H Q=>∃p xs i v,x= .ref p∧y= .int i∧SqT K H p xs∧atI xs i=some v∧Q v H
def ya:R2:=fun x y H Q=>∃z i c,x= .str z∧y= .int i∧z.length≤sizeLine∧atI z.cps.toList i=some c∧Q (.str ⟨#[c]⟩) H
theorem ix_list:IxR X (xZ X.K):=by
  intro value slice pins s σ H x y v u Q I rx ry h hs
  obtain ⟨p,xs,i,z,rfl,rfl,hq,he,q⟩:=h
  cases rx
  obtain ⟨t,rfl⟩:=ry
  obtain ⟨its,r,pl,hz⟩:=I.list hq
  obtain ⟨j,h1,h2,h3,h4,h5⟩:=lx he
  obtain ⟨w,ew,rw'⟩:=r.get h2
  have hl:=r.length
  have hn:=gU
  have fin:EP X pins σ Q w s:=⟨z,H,I,rw',q⟩
  by_cases h0:0≤i
  · have hj:i.toNat=j:=by
      rw [seqIndex_of h0 h5] at h1
      exact Option.some.inj h1
    exact item_listR pl.isList h0 (by omega) (by rw [hj];simpa using ew) fin hs
  · have hj:(i+(its.toArray.size:Int)).toNat=j:=by
      rw [seqIndex_neg (by omega) h4] at h1
      rw [List.size_toArray,←hl]
      exact Option.some.inj h1
    exact subscriptTail_builtinR (x:=w) pl.isList.typeIs slot_list_getitem.lookup
      (wpAny_getItem_list_neg (Q:=fun r s'=>r=w∧EP X pins σ Q r s') pl.isList (by omega) (by rw [List.size_toArray] <;> omega) (by omega) (by rw [hj];simpa using ew) ⟨rfl,fin⟩) hs
theorem ix_tup:IxR X (x_ X.K):=by
  intro value slice pins s σ H x y v u Q I rx ry h hs
  obtain ⟨p,xs,i,z,rfl,rfl,hq,he,q⟩:=h
  cases rx
  obtain ⟨t,rfl⟩:=ry
  obtain ⟨its,r,pl,hz⟩:=I.tuple hq
  obtain ⟨j,h1,h2,h3,h4,h5⟩:=lx he
  obtain ⟨w,ew,rw'⟩:=r.get h2
  have hl:=r.length
  have hn:=gU
  have fin:EP X pins σ Q w s:=⟨z,H,I,rw',q⟩
  exact subscriptTail_builtinR (x:=w) pl.typeIs slot_tuple_getitem.lookup
    (getItem_tuple (j:=j) (Q:=fun r s'=>r=w∧EP X pins σ Q r s') pl (by omega) (by omega) (by rw [List.size_toArray,←hl];exact h1) (by simpa using ew) ⟨rfl,fin⟩) hs
theorem wj:IxR X ya:=by
  intro value slice pins s σ H x y v u Q I rx ry h hs
  obtain ⟨z,i,c,rfl,rfl,hz,he,q⟩:=h
  obtain ⟨t,rfl⟩:=rx
  obtain ⟨t',rfl⟩:=ry
  obtain ⟨j,h1,h2,h3,h4,h5⟩:=lx he
  have hl:z.cps.toList.length=z.length:=by simp [Str.length]
  rw [hl] at h1 h4 h5
  have hn:=gU
  exact tail_any (typeIs_str s z t) slot_str_getitem.lookup (getItem_str (c:=c) (by
    have e1:decide (i < -(2 ^ 63:Int))=false:=decide_eq_false (by omega)
    have e2:decide (i≥2 ^ 63)=false:=decide_eq_false (by omega)
    rw [e1,e2,Bool.or_false]) (by rw [h1];simpa using h2) ⟨.str ⟨#[c]⟩,H,I.tok _,⟨_,rfl⟩,q⟩) hs
def zR (K:PySem.W.Frag):R2:=fun x y H Q=>xZ K x y H Q∨x_ K x y H Q∨ya x y H Q
theorem wk:IxR X (zR X.K):=ix_list.or (ix_tup.or wj)
theorem nY (its:List Value) (n j:Nat) (u:Value):Obj.mapSeq (·.setIfInBounds j u) {cls:= .type "list",data:= .seq its.toArray n}={cls:= .type "list",data:= .seq (its.set j u).toArray n}:=by
  simp [Obj.mapSeq]
theorem Inv.lst {pins:List (Addr×Obj)} {σ:St} {H:Hp} {s:Shared} {p:Addr} {xs:List V} (I:Inv X pins σ H s) (h:H p=some (.lst xs)):
    ∃(its:List Value) (n:Nat),Vals xs its∧s.heap.get? p=some {cls:= .type "list",data:= .seq its.toArray n}∧xs.length≤sizeLine:=by
  obtain ⟨z,its,n,r,e⟩:=I.hok p _ h
  exact ⟨its,n,r,e,z⟩
theorem Inv.lstUpd {pins:List (Addr×Obj)} {σ:St} {H:Hp} {s:Shared} {p:Addr} {xs ys:List V} {its its':List Value} {n n':Nat} {f:Obj→Obj} (I:Inv X pins σ H s) (h:H p=some (.lst xs))
    (ho:s.heap.get? p=some {cls:= .type "list",data:= .seq its.toArray n}) (hf:f {cls:= .type "list",data:= .seq its.toArray n}={cls:= .type "list",data:= .seq its'.toArray n'}) (r:Vals ys its') (hz:ys.length≤sizeLine) (t:Nat):
    Inv X pins σ (upd H p (.lst ys)) {s with heap:=s.heap.update p f,toks:=t}:=by
  have e:(s.heap.update p f).get? p=some {cls:= .type "list",data:= .seq its'.toArray n'}:=by
    rw [Heap.get?_update_self f ho (by rw [hf] <;> rfl),hf]
  refine I.write (x:=p) (e:=p) (by rw [h];trivial) (.inl rfl) (fun b u hb q=>(Heap.get?_update_other _ _ (Ne.symm hb)).trans q) ⟨_,e⟩ ?_
  exact ⟨hz,its',n',r,e⟩
def yb:V→V→V→Hp→(Hp→Prop)→Prop:=fun o i v H Q=>∃p xs k j,o= .ref p∧i= .int k∧H p=some (.lst xs)∧xC xs.length k=some j∧Q (upd H p (.lst (xs.set j v)))
theorem qY:xO X yb:=by
  intro pins s σ H o i v ov iv u Q I ro ri rv h
  obtain ⟨p,xs,k,j,rfl,rfl,hp,hj,q⟩:=h
  cases ro
  obtain ⟨t,rfl⟩:=ri
  obtain ⟨its,n,r,ho,hz⟩:=I.lst hp
  obtain ⟨h1,h2,h3,h4⟩:=oS hj
  have hl:=r.length
  have hn:=gU
  have I':Inv X pins σ (upd H p (.lst (xs.set j v))) {s with heap:=s.heap.update p (Obj.mapSeq (·.setIfInBounds j u))}:=
    I.lstUpd hp ho (nY its n j u) (r.set rv j) (by rw [List.length_set];exact hz) s.toks
  by_cases h0:0≤k
  · have hk:k.toNat=j:=by
      rw [seqIndex_of h0 h4] at h1
      exact Option.some.inj h1
    exact PySem.W.ki_setAt ho h0 (by omega) (by rw [List.size_toArray,←hl];exact h4) (by rw [hk];exact ⟨_,I',q⟩)
  · have hk:(k+(its.toArray.size:Int)).toNat=j:=by
      rw [seqIndex_neg (by omega) h3] at h1
      rw [List.size_toArray,←hl]
      exact Option.some.inj h1
    exact PySem.W.ki_setBack ho (by omega) (by rw [List.size_toArray,←hl];exact h3) (by omega) (by rw [hk];exact ⟨_,I',q⟩)
def hO:V→Bool
  | .non=>true
  | .bl _=>true
  | .int _=>true
  | .str _=>true
  | _=>false
def ug:V→V→Bool
  | .non, .non=>true
  | .bl a, .bl b=>a == b
  | .bl a, .int b=>(if a then 1 else 0) == b
  | .int a, .bl b=>a == (if b then 1 else 0)
  | .int a, .int b=>a == b
  | .str a, .str b=>a == b
  | _,_=>false
theorem wm {A:Around} {s:Shared} {y x:V} {u v:Value} (ry:RelV y u) (rx:RelV x v) (fy:hO y=true) (fx:hO x=true):SeqAt.EqAt A s u v (ug y x):=by
  cases y with
  | non=>
    cases ry
    cases x with
    | non=>cases rx;exact SeqAt.EqAt.same _
    | bl b=>cases rx;exact SeqAt.EqAt.none_bool b
    | int b=>obtain ⟨t,rfl⟩:=rx;exact SeqAt.EqAt.none_int b t
    | str b=>obtain ⟨t,rfl⟩:=rx;exact SeqAt.EqAt.none_str b t
    | _=>exact absurd (show false=true from fx) Bool.false_ne_true
  | bl a=>
    cases ry
    cases x with
    | non=>cases rx;exact SeqAt.EqAt.bool_none a
    | bl b=>cases rx;exact SeqAt.EqAt.bool_bool a b
    | int b=>obtain ⟨t,rfl⟩:=rx;exact SeqAt.EqAt.bool_int a b t
    | str b=>obtain ⟨t,rfl⟩:=rx;exact SeqAt.EqAt.bool_str a b t
    | _=>exact absurd (show false=true from fx) Bool.false_ne_true
  | int a=>
    obtain ⟨t',rfl⟩:=ry
    cases x with
    | non=>cases rx;exact SeqAt.EqAt.int_none a t'
    | bl b=>cases rx;exact SeqAt.EqAt.int_bool a t' b
    | int b=>obtain ⟨t,rfl⟩:=rx;exact SeqAt.EqAt.int_int a t' b t
    | str b=>obtain ⟨t,rfl⟩:=rx;exact SeqAt.EqAt.int_str a t' b t
    | _=>exact absurd (show false=true from fx) Bool.false_ne_true
  | str a=>
    obtain ⟨t',rfl⟩:=ry
    cases x with
    | non=>cases rx;exact SeqAt.EqAt.str_none a t'
    | bl b=>cases rx;exact SeqAt.EqAt.str_bool a t' b
    | int b=>obtain ⟨t,rfl⟩:=rx;exact SeqAt.EqAt.str_int a t' b t
    | str b=>obtain ⟨t,rfl⟩:=rx;exact SeqAt.EqAt.str_str a t' b t
    | _=>exact absurd (show false=true from fx) Bool.false_ne_true
  | _=>exact absurd (show false=true from fy) Bool.false_ne_true
def uh (x:V) (u:Value):Bool:=match u with
  | .none=>ug .non x
  | .bool b=>ug (.bl b) x
  | .int i _=>ug (.int i) x
  | .str z _=>ug (.str z) x
  | _=>false
theorem qZ {x y:V} {u:Value} (r:RelV y u) (f:hO y=true):uh x u=ug y x:=by
  cases y with
  | non=>cases r;rfl
  | bl b=>cases r;rfl
  | int i=>obtain ⟨t,rfl⟩:=r;rfl
  | str z=>obtain ⟨t,rfl⟩:=r;rfl
  | _=>exact absurd (show false=true from f) Bool.false_ne_true
theorem ly {x:V}:∀{xs:List V} {us:List Value},Vals xs us→xs.all hO=true→us.any (uh x)=xs.any fun y=>ug y x
  | _,_, .nil,_=>rfl
  | y::xs,u::us, .cons r t,f=>by
    rw [List.all_cons,Bool.and_eq_true] at f
    rw [List.any_cons,List.any_cons,qZ r f.1,ly t f.2]
theorem jH {A:Around} {s:Shared} {x:V} {v:Value} (rx:RelV x v) (fx:hO x=true):∀{xs:List V} {us:List Value},Vals xs us→xs.all hO=true→∀u∈us,SeqAt.EqAt A s u v (uh x u)
  | _,_, .nil,_=>fun u hu=>by cases hu
  | y::xs,u::us, .cons r t,f=>fun u' hu=>by
    rw [List.all_cons,Bool.and_eq_true] at f
    rcases List.mem_cons.mp hu with rfl | hu
    · rw [qZ r f.1];exact wm r rx f.1 fx
    · exact jH rx fx t f.2 u' hu
def yQ (x:V) (xs:List V):Bool:=xs.any fun y=>ug y x
def zS (K:PySem.W.Frag) (neg:Bool):R2:=fun x y H Q=>∃p xs,y= .ref p∧(SqL K H p xs∨SqT K H p xs)∧hO x=true∧xs.all hO=true∧Q (.bl (if neg then !yQ x xs else yQ x xs)) H
theorem lz:OpR X (compareOp .NotIn) (zS X.K true):=by
  intro pins s σ H x y v u Q I rx ry h
  obtain ⟨p,xs,rfl,hq,fx,fs,q⟩:=h
  cases ry
  rcases hq with hq | hq
  · obtain ⟨its,r,pl,hz⟩:=I.list hq
    refine SeqAt.notIn_listAt (uh x) pl.isList (fun w hw=>jH rx fx r fs w (by simpa using hw)) ⟨.bl _,H,I,rfl,?_⟩
    rw [show its.toArray.any (uh x)=its.any (uh x) by simp,ly r fs]
    exact q
  · obtain ⟨its,r,pl,hz⟩:=I.tuple hq
    refine SeqAt.notIn_tupleAt (uh x) pl (fun w hw=>jH rx fx r fs w (by simpa using hw)) ⟨.bl _,H,I,rfl,?_⟩
    rw [show its.toArray.any (uh x)=its.any (uh x) by simp,ly r fs]
    exact q
theorem hU:CallR X (.builtin "len") (fun xs H Q=>∃p ys,xs=[.ref p]∧(SqL X.K H p ys∨SqT X.K H p ys)∧Q (.int ys.length) H):=by
  intro pins s σ H xs us Q I r h
  obtain ⟨p,ys,rfl,hq,q⟩:=h
  obtain ⟨u,rfl,rx⟩:=jF r
  cases rx
  have hn:=gU
  rcases hq with hq | hq
  · obtain ⟨its,r',pl,hz⟩:=I.list hq
    have hlen:=r'.length
    exact Calls.call_len_list pl.isList (by simp only [List.size_toArray] <;> omega) ⟨.int ys.length,H,I.tok _,⟨s.toks+1,by rw [List.size_toArray,hlen]⟩,q⟩
  · obtain ⟨its,r',pl,hz⟩:=I.tuple hq
    have hlen:=r'.length
    exact len_tuple pl (by simp only [List.size_toArray] <;> omega) ⟨.int ys.length,H,I.tok _,⟨s.toks+1,by rw [List.size_toArray,hlen]⟩,q⟩
theorem lC:CallR X (.builtin "len") (fun xs H Q=>∃z,xs=[.str z]∧z.length≤sizeLine∧Q (.int z.length) H):=by
  intro pins s σ H xs us Q I r h
  obtain ⟨z,rfl,hz,q⟩:=h
  obtain ⟨u,rfl,t,rfl⟩:=jF r
  have hn:=gU
  exact len_str (by omega) ⟨.int z.length,H,I.tok _,⟨_,rfl⟩,q⟩
theorem CallR.or {f:Value} {r r':List V→Hp→VK→Prop} (h:CallR X f r) (h':CallR X f r'):CallR X f (fun xs H Q=>r xs H Q∨r' xs H Q):=by
  intro pins s σ H xs us Q I rs q
  rcases q with q | q
  · exact h pins s σ H xs us Q I rs q
  · exact h' pins s σ H xs us Q I rs q
theorem lD:CallR X (.type "list") (fun xs H Q=>∃p ys,xs=[.ref p]∧(SqL X.K H p ys∨SqT X.K H p ys)∧∀l,H l=none→Q (.ref l) (upd H l (.lst ys))):=by
  intro pins s σ H xs us Q I r h
  obtain ⟨p,ys,rfl,hq,q⟩:=h
  obtain ⟨u,rfl,rx⟩:=jF r
  cases rx
  have fin:∀(its:List Value),Vals ys its→ys.length≤sizeLine→∀(h':Heap) (c':Nat),(∀b o',s.heap.get? b=some o'→h'.get? b=some o')→
      h'.get? s.heap.objs.size=some {cls:= .type "list",dict:=none,data:= .seq its.toArray c',slots:=#[]}→EP X pins σ Q (.ref s.heap.objs.size) {s with heap:=h'}:=fun its r' hz h' c' kp e=>
    ⟨.ref s.heap.objs.size,_,I.laid (t':=s.toks) kp (Nat.le_refl _) (show ObjOk X.prog X.w _ h' _ (.lst ys) from ⟨hz,its,c',r',e⟩),rfl,q _ (I.hok.fresh (Nat.le_refl _))⟩
  rcases hq with hq | hq
  · obtain ⟨its,r',pl,hz⟩:=I.list hq
    have hlen:=r'.length
    obtain ⟨o,ho,hc,n,hd⟩:=pl.isList
    exact call_list_seq p (.inl rfl) ho hc hd (fun h' c' kp e=>fin its r' hz h' c' kp e) (by simp only [List.size_toArray] <;> omega)
  · obtain ⟨its,r',pl,hz⟩:=I.tuple hq
    have hlen:=r'.length
    obtain ⟨o,ho,hc,n,hd⟩:=pl
    exact call_list_seq p (.inr rfl) ho hc hd (fun h' c' kp e=>fin its r' hz h' c' kp e) (by simp only [List.size_toArray] <;> omega)
theorem kd:CallR X (.type "tuple") (fun xs H Q=>∃p ys,xs=[.ref p]∧((SqL X.K H p ys∧∀l,H l=none→Q (.ref l) (upd H l (.tup ys)))∨(SqT X.K H p ys∧Q (.ref p) H))):=by
  intro pins s σ H xs us Q I r h
  obtain ⟨p,ys,rfl,h⟩:=h
  obtain ⟨u,rfl,rx⟩:=jF r
  cases rx
  rcases h with ⟨hq,q⟩ | ⟨hq,q⟩
  · obtain ⟨its,r',pl,hz⟩:=I.list hq
    have hlen:=r'.length
    refine call_tuple_list pl.isList (fun h' kp=>?_) (by simp only [List.size_toArray] <;> omega)
    have I1:Inv X pins σ H {s with heap:=h'}:=I.kept (t':=s.toks) kp
    have I2:Inv X pins σ (upd H h'.objs.size (.tup ys)) {s with heap:=h'.push {cls:= .type "tuple",data:= .seq its.toArray}}:=
      I1.laid (t':=s.toks) (fun b o e=>Heap.get?_push_of_some _ e) (Nat.le_refl _) (show ObjOk X.prog X.w _ _ _ (.tup ys) from ⟨hz,its,r',IsTup.new _ _⟩)
    exact ⟨.ref h'.objs.size,_,I2,rfl,q _ (I1.hok.fresh (Nat.le_refl _))⟩
  · obtain ⟨its,r',pl,hz⟩:=I.tuple hq
    exact call_tuple_same pl ⟨.ref p,H,I,rfl,q⟩
def zU (K:PySem.W.Frag) (T:String) (x:V) (H:Hp):Prop:=match x with
  | .str _=>T="str"
  | .int _=>T="int"
  | .ref p=>(T="list"∧∃xs,SqL K H p xs)∨(T="tuple"∧∃o,K.lookup p=some o∧o.cls= .type "tuple"∧o.dict=none)∨
      (T="dict"∧((∃kvs,H p=some (.dK kvs))∨∃kvs,H p=some (.dT kvs)))∨(T="set"∧∃S n,H p=some (.set S n))
  | _=>False
theorem wn {pins:List (Addr×Obj)} {σ:St} {H:Hp} {s:Shared} {T:String} {x:V} {v:Value} (I:Inv X pins σ H s) (r:RelV x v) (ty:zU X.K T x H):
    s.TypeIs v T∧∀a,v= .ref a→∃ob,s.heap.get? a=some ob∧ob.dict=none:=by
  cases x with
  | str z=>
    obtain ⟨t,rfl⟩:=r
    cases (show T="str" from ty)
    exact ⟨typeIs_str s z t,fun _ e=>nomatch e⟩
  | int i=>
    obtain ⟨t,rfl⟩:=r
    cases (show T="int" from ty)
    exact ⟨typeIs_int s i t,fun _ e=>nomatch e⟩
  | ref p=>
    cases r
    rcases ty with ⟨rfl,xs,hq⟩ | ⟨rfl,o,hk,hc,hd⟩ | ⟨rfl,hk⟩ | ⟨rfl,S,n,hk⟩
    · obtain ⟨its,_,pl,_⟩:=I.list hq
      refine ⟨pl.isList.typeIs,fun a e=>?_⟩
      cases e
      obtain ⟨o,n,e,c,hd,_⟩:=pl
      exact ⟨o,e,hd⟩
    · refine ⟨⟨o,I.kIn p o hk,hc⟩,fun a e=>?_⟩
      cases e
      exact ⟨o,I.kIn _ o hk,hd⟩
    · have z:∃o,s.heap.get? p=some o∧o.ExactDict:=by
        rcases hk with ⟨kvs,hk⟩ | ⟨kvs,hk⟩
        · obtain ⟨_,_,_,_,o,_,_,e,ex,_⟩:=I.hok p _ hk
          exact ⟨o,e,ex⟩
        · obtain ⟨_,_,_,_,o,_,_,e,ex,_⟩:=I.hok p _ hk
          exact ⟨o,e,ex⟩
      obtain ⟨o,e,ex⟩:=z
      refine ⟨⟨o,e,ex.1⟩,fun a e2=>?_⟩
      cases e2
      exact ⟨o,e,ex.2.1⟩
    · obtain ⟨o,_,_,_,e,ex,_⟩:=I.hok p _ hk
      refine ⟨⟨o,e,ex.1⟩,fun a e2=>?_⟩
      cases e2
      exact ⟨o,e,ex.2.1⟩
  | _=>exact False.elim ty
def Ag (K:PySem.W.Frag) (T:String) (r:V→List V→Hp→VK→Prop) (to:TE) (t:TA):TE:=fun σ H Q=>to σ H fun x H1=>zU K T x H1∧t σ H1 fun xs H2=>r x xs H2 Q
variable {o e:Expr} {es:List Expr} {to:TE} {t:TA} {name:Str} {apos cpos:Pos} {T id:String} {r:V→List V→Hp→VK→Prop}
theorem q9 (pa:PlainAttrs T) (slot:Slot T name id) (hty:typeOf (.builtin id)=pure (.type "method_descriptor")) (hm:MtR X id r) (ho:PE X o to) (ha:PA X (e::es) t)
    (hbase:attributeBase o name X.env (eval o X.env)=eval o X.env:=by rfl)
    (hfew:((backTo cpos (starEach (e::es) X.env)).all (fun x=> !x.1)&&(backToKw cpos (keywordEach [] X.env)).all (fun x=>x.1.isSome)
      &&decide ((e::es).length+([]:List Keyword).length+(if ([]:List Keyword).isEmpty then 0 else 1) < 30))=true:=by rfl)
    (hline:(apos.endLine == cpos.line)=true:=by rfl) (hs:starEach (e::es) X.env=(false,eval e X.env)::starEach es X.env:=by rfl) (hplain:(backTo cpos (starEach es X.env)).any (·.1)=false:=by rfl):
    PE X (.Call (.Attribute o name apos) (e::es) [] cpos) (Ag X.K T r to t):=by
  intro pins s σ H Q I h
  refine wpAny_Call_method_late hbase hfew hline rfl (cI (ho pins s σ H _ I h) fun v s1 ⟨x,H1,I1,r1,ty,q1⟩=>?_)
  obtain ⟨h1,h2⟩:=wn I1 r1 ty
  refine ⟨T,id,pa,slot,hty,h1,h2,?_⟩
  have hA:=ha cpos pins s1 σ H1 _ I1 q1
  rw [hs] at hA ⊢
  refine Calls.callWith_builtin (by show (false||(backTo cpos (starEach es X.env)).any (·.1))=false;rw [hplain] <;> rfl) (Calls.evalArgs_plain ?_)
  exact cI hA fun us s2 ⟨vs,H2,I2,r2,q2⟩=>hm pins s2 σ H2 x vs v us Q I2 r1 r2 q2
end
end L2
namespace L2
open PySem PySem.Spec PyProof.Rows
def zV (X:Cx) (id:String) (r:V→List V→Hp→VK→Prop):Prop:=
  ∀(pins:List (Addr×Obj)) (s:Shared) (σ:St) (H:Hp) (x:V) (xs:List V) (v:Value) (us:List Value) (Q:VK),Inv X pins σ H s→RelV x v→Vals xs us→r x xs H Q→
    wpAny (model X.prog X.w) X.A (call (.builtin id) (v::us)) (EP X pins σ Q) X.xe s
theorem Vals.one {x:V} {us:List Value} (h:Vals [x] us):∃u,us=[u]∧RelV x u:=by
  cases h with
  | cons r t=>cases t;exact ⟨_,rfl,r⟩
theorem Vals.two {x y:V} {us:List Value} (h:Vals [x,y] us):∃u v,us=[u,v]∧RelV x u∧RelV y v:=by
  cases h with
  | cons r t=>
    obtain ⟨v,rfl,q⟩:=Vals.one t
    exact ⟨_,_,rfl,r,q⟩
theorem Vals.zero:∀{us:List Value},Vals [] us→us=[]
  | _, .nil=>rfl
theorem Vals.reverse {xs:List V} {us:List Value} (h:Vals xs us):Vals xs.reverse us.reverse:=by
  induction h with
  | nil=>exact .nil
  | cons r t ih=>rw [List.reverse_cons,List.reverse_cons];exact Vals.append ih (.cons r .nil)
theorem Vals.rep {xs:List V} {us:List Value} (h:Vals xs us):∀k:Nat,Vals (List.replicate k xs).flatten (List.replicate k us).flatten
  | 0=> .nil
  | k+1=>by
    rw [List.replicate_succ,List.replicate_succ,List.flatten_cons,List.flatten_cons]
    exact Vals.append h (Vals.rep h k)
section
variable {X:Cx} {pins:List (Addr×Obj)} {σ:St} {H:Hp} {s:Shared} {l b:Addr} {xs ys zs:List V}
theorem Inv.lset {its its':List Value} {n:Nat} {f:Array Value→Array Value} {t':Nat} (I:Inv X pins σ H s) (hH:H l=some (.lst xs))
    (e:s.heap.get? l=some {cls:= .type "list",data:= .seq its.toArray n}) (hf:f its.toArray=its'.toArray) (hv:Vals ys its') (hz:ys.length≤sizeLine):
    Inv X pins σ (upd H l (.lst ys)) {s with heap:=s.heap.update l (Obj.mapSeq f),toks:=t'}:=by
  have q:=PySem.IsL.update e f
  rw [hf] at q
  refine I.write (x:=l) (e:=l) (by rw [hH];exact trivial) (.inl rfl) (fun b' u hb hu=>(Heap.get?_update_other s.heap (Obj.mapSeq f) (Ne.symm hb)).trans hu) ⟨_,q⟩ ?_
  exact ⟨hz,its',_,hv,q⟩
theorem Inv.lnew {its:List Value} {t':Nat} (I:Inv X pins σ H s) (hv:Vals ys its) (hz:ys.length≤sizeLine):
    Inv X pins σ (upd H s.heap.objs.size (.lst ys)) {s with heap:=s.heap.push {cls:= .type "list",data:= .seq its.toArray},toks:=t'}:=
  I.laid (fun _ _ q=>Heap.get?_push_of_some _ q) (Nat.le_refl _) ⟨hz,its,0,hv,Heap.get?_push_size _ rfl⟩
theorem Inv.fresh (I:Inv X pins σ H s):H s.heap.objs.size=none:=I.hok.fresh (Nat.le_refl _)
theorem Inv.lstM (I:Inv X pins σ H s) (hH:H l=some (.lst xs)):xs.length≤sizeLine∧∃(its:List Value) (n:Nat),Vals xs its∧xs.length=its.length∧s.heap.get? l=some {cls:= .type "list",data:= .seq its.toArray n}:=by
  obtain ⟨z,its,n,r,e⟩:=I.hok l _ hH
  exact ⟨z,its,n,r,r.length,e⟩
theorem q_ {n:Nat} (h:n≤sizeLine):Builtin.List.listTooLong n=false:=by
  unfold Builtin.List.listTooLong
  exact decide_eq_false (by omega)
end
section
variable {X:Cx}
def ui:V→List V→Hp→VK→Prop:=fun x vs H Q=>∃l xs y,x= .ref l∧vs=[y]∧H l=some (.lst xs)∧xs.length < sizeLine∧Q .non (upd H l (.lst (xs++[y])))
theorem kL:zV X "list.append" ui:=by
  intro pins s σ H x vs v us Q I rx rv h
  obtain ⟨l,xs,y,rfl,rfl,hH,hz,q⟩:=h
  cases rx
  obtain ⟨u,rfl,ru⟩:=rv.one
  obtain ⟨z,its,n,r,hl,e⟩:=I.lstM hH
  refine call_meets F.slot_list_append ⟨_,e,rfl⟩ F.entry_list_append (F.args_list_append_2 _ _) (PySem.list_append l its.toArray n u (by rw [List.size_toArray];omega)) ⟨e,?_⟩
  refine ⟨.non,_,I.lset (its':=its++[u]) hH e (by simp) (r.append (.cons ru .nil)) ?_,rfl,q⟩
  rw [List.length_append,List.length_singleton]
  omega
def uj:V→List V→Hp→VK→Prop:=fun x vs H Q=>∃l b xs zs,x= .ref l∧vs=[.ref b]∧H l=some (.lst xs)∧H b=some (.lst zs)∧xs.length+zs.length≤sizeLine∧Q .non (upd H l (.lst (xs++zs)))
theorem pO:zV X "list.extend" uj:=by
  intro pins s σ H x vs v us Q I rx rv h
  obtain ⟨l,b,xs,zs,rfl,rfl,hH,hB,hz,q⟩:=h
  cases rx
  obtain ⟨u,rfl,ru⟩:=rv.one
  cases ru
  obtain ⟨z,its,n,r,hl,e⟩:=I.lstM hH
  obtain ⟨z2,its2,n2,r2,hl2,e2⟩:=I.lstM hB
  have hsz:its.toArray.size+its2.toArray.size≤sizeLine:=by rw [List.size_toArray,List.size_toArray];omega
  have hlong:¬(!its.toArray.isEmpty&&Builtin.List.listTooLong (its.toArray.size+its2.toArray.size))=true:=by
    rw [q_ hsz,Bool.and_false]
    exact Bool.false_ne_true
  refine call_meets F.slot_list_extend ⟨_,e,rfl⟩ F.entry_list_extend (F.args_list_extend_2 _ _)
    (AutoSeq1.list_extend_list_list_0 l its.toArray n b its2.toArray n2 hlong (by rw [List.size_toArray];omega) (by omega)) ⟨e,e2,?_⟩
  refine ⟨.non,_,I.lset (its':=its++its2) hH e (by simp) (r.append r2) ?_,rfl,q⟩
  rw [List.length_append]
  omega
theorem uk {α:Type} (xs:List α) (k:Nat):(List.replicate k xs).flatten.length=k*xs.length:=by
  induction k with
  | zero=>simp
  | succ k ih=>rw [List.replicate_succ,List.flatten_cons,List.length_append,ih,Nat.succ_mul,Nat.add_comm]
end
end L2
namespace Att
open PySem PySem.W PySem.Calls PyProof.Rows
theorem jg {P:Params} {h:Heap}:∀(ns:List Int) (vs:List Value),WellAll P h vs (ns.map WData.int)→IntsAre vs ns:=by
  intro ns
  induction ns with
  | nil=>
    intro vs w
    rw [List.map_nil] at w
    cases w
    exact .nil
  | cons n ns ih=>
    intro vs w
    rw [List.map_cons] at w
    cases w with
    | cons a b=>
      cases a
      exact .cons _ _ (ih _ b)
theorem pP {l:OpenLaw} {n:Nat} (hn:l.most=some n) {P:Params} {h:Heap} {args:List WData} {vals:List Value}
    (hpre:l.row.toRowW.claim.pre args=true) (hwl:WellAll P h vals args):
    ∃a vs ns,vals=[Value.ref a]∧args=[WData.list (ns.map WData.int)]∧h.get? a=some {cls:= .type "list",data:= .seq vs.toArray}∧IntsAre vs ns∧ns.length≤n:=by
  have hsh:WShape.hasAll [] args [.list .int]=true:=(pre_splitW hpre).1
  have hc:l.pre.holds [] {args:=args}=true:=(pre_splitW hpre).2
  obtain ⟨d,r,rfl,h1,h2⟩:=hasAllW_cons hsh
  obtain rfl:=hasAllW_nil h2
  obtain ⟨xs,rfl,h3⟩:=hasW_list h1
  obtain ⟨ns,rfl⟩:=items_int h3
  have hlen:ns.length≤n:=by
    unfold OpenLaw.pre at hc
    have h4:(WTm.not (.lt (.lit (.int (n:Int))) (.len (.arg 0)))).holds [] {args:=[.list (ns.map .int)]}=true:=by
      have h4:=(holds_andW hc).1
      rw [hn] at h4
      exact h4
    have h5:=condW_of h4 (w_not (w_lt w_lit (w_len_list (w_arg rfl))))
    rw [List.length_map] at h5
    refine Nat.le_of_not_lt fun q=>?_
    have q':(n:Int) < ((ns.length:Nat):Int):=by omega
    first
      | (rw [decide_eq_true q'] at h5;exact absurd h5 (by decide))
      | (simp at h5;omega)
  cases hwl with
  | cons w1 w2=>
    cases w2
    cases w1 with
    | list ho hall=>exact ⟨_,_,ns,rfl,rfl,ho,jg ns _ hall,hlen⟩
theorem pQ (l:OpenLaw) (args:List WData):l.row.toRowW.claim.post args (.bool true) args=true:=
  postW_of (r:=l.row.toRowW) (X:=(true == true))
    (show WShape.has [] (.bool true) .bool=true by first | rfl | decide | simp [WShape.has,WShape.arms,WShape.armsAll])
    (show (WTm.eq .res (.lit (.bool true))).value [] {args:=args,res:=some (.bool true),after:=args}=some (.bool (true == true)) from w_eq_bool (w_res rfl) w_lit) rfl
theorem mK {l:OpenLaw} {n:Nat} {q:Program} {loose:List Str} {XP:(Str→Option Value)→Heap→Prop} {YP:World→Heap→Prop} {d:DefRec}
    (hn:l.most=some n) (hdf:d.params.defaults=[])
    (call:∀(w:World) (s₀ s₁:Shared) (mg mb:Str→Option Value) (fa:Addr) (o:Obj) (pm cd doc:Value) (a:Addr) (vs:List Value) (ns:List Int),
      Ground q loose [] XP w s₀ mg mb s₁.heap→YP w s₁.heap→
      s₁.heap.get? fa=some o→o.data= .func (docDef d.name d.params d.body d.scope pm cd doc)→s₁.heap.CodeRec cd d.name→mg d.name=some (.ref fa)→
      s₁.heap.get? a=some {cls:= .type "list",data:= .seq vs.toArray}→IntsAre vs ns→ns.length≤n→s₁.gens=#[]→
      codeAny (model l.prog w) callerA (.call (.ref fa) ⟨[.ref a],[]⟩) (fun r s'=>r= .ok (.ret (.bool true))∧OldK s₁.heap s'.heap∧s'.os=s₁.os∧AllBare s'.gens) s₁):
    WalkO q loose XP YP l.row.toRowW d [] (fun f vs=>PySem.call f vs):=by
  intro w s₀ s₁ mg mb G Y fa o pm cd doc dV kV ho hd hcd hD hmg hg args vals as hpre hlay hrd hwl hlo
  obtain rfl:dV= .none:=Dflts.none hD hdf
  obtain rfl:kV= .none:=Dflts.noKw hD
  obtain ⟨a,vs,ns,rfl,rfl,hobj,hints,hlen⟩:=pP hn hpre hwl
  refine enter_call (codeAny_mono (call w s₀ s₁ mg mb fa o pm cd doc a vs ns G Y ho (fd_plain hd) hcd hmg hobj hints hlen hg) fun r s' hq=>?_)
  obtain ⟨rfl,h2,h3,h4⟩:=hq
  exact ⟨.inl ⟨.bool true, .bool true,[],rfl,fun _=>rfl, .bool true,pQ l _,fun _=>⟨List.Pairwise.nil,fun _ hm=>(nomatch hm)⟩⟩,h2,h3,h4⟩
end Att
namespace L2
open PySem PySem.Spec PyProof.Rows
theorem fI:∀{vs:List Value} {ns:List Int},IntsAre vs ns→Vals (ns.map V.int) vs
  | _,_, .nil=> .nil
  | _,_, .cons n t h=> .cons ⟨t,rfl⟩ (fI h)
theorem ObjOk.tbl0 {P:Program} {w:World} {H:Hp} {h:Heap} {b:Addr} {q:Str} (e:h.get? b=some (PySem.W.tabObj #[])):ObjOk P w H h b (.tbl q):=⟨#[],e,trivial,fun pos cv z=>by cases z⟩
end L2
namespace L2
open PySem PySem.Spec PyProof.Rows
def cz (s:Stmt) (j:Nat):Stmt:=match s with
  | .ClassDef _ _ _ body _ _ _ _ _ _ _=>body.getD j (.Pass ⟨0,0,0,0⟩)
  | _=> .Pass ⟨0,0,0,0⟩
def b7 (s:Stmt):Arguments:=match s with
  | .FunctionDef _ a _ _ _ _ _ _ _ _=>a
  | _=>{posonlyargs:=[],args:=[],vararg:=none,kwonlyargs:=[],kw_defaults:=[],kwarg:=none,defaults:=[]}
def bj (s:Stmt):List Stmt:=match s with
  | .FunctionDef _ _ b _ _ _ _ _ _ _=>b
  | _=>[]
def aj (s:Stmt):Scope:=match s with
  | .FunctionDef _ _ _ _ _ _ sc _ _ _=>sc
  | _=>{kind:= .function,names:=[],isGenerator:=false,isCoroutine:=false}
abbrev gT:pM:=fun _ _ _ _ _ _=>False
abbrev E0:XK:=fun _ _ _=>False
theorem oU {X:Cx}:jG gT X E0:=fun _ _ _ _ _ _ _ h=>h.elim
structure Fun (K:PySem.W.Frag) (x qual:Str) (st:Stmt) (f:Addr) (fd:FuncData):Prop where
  ex:∃(oc:Value) (od:Option Addr) (kV doc pm:Value) (an:Option Addr) (cdv ct:Value) (osl:Array (Option Value)),
    fd=PySem.W.fnOf x qual (b7 st) (bj st) (aj st) .none kV doc pm an cdv ct∧K.lookup f=some ⟨oc,od, .func fd,osl⟩∧PySem.W.codeIn K cdv qual=true
  kp:PySem.W.keepIn K (.ref f)=true
section
variable {P:Program} {w:World} {K:PySem.W.Frag} {mg:Str→Option Value} {base:Heap}
theorem Fun.ok {x qual:Str} {st:Stmt} {f:Addr} {fd:FuncData} {N ps:List Str} {k:Nat} {sp:Sp} (F:Fun K x qual st f fd) (S:FnScope N ps (aj st)) (len:∀vs H Q E,sp vs H Q E→vs.length=ps.length)
    (hbody:∀(cdv:Value) (A:Around) (outer:List Env) (s:Shared) (H:Hp) (vs:List V) (Q:VK) (E:XK),Room k (A.deeper (envOfC qual (aj st) s.heap.objs.size f cdv))→sp vs H Q E→
      ∃t,PSs (gq gT P w K mg base N qual (aj st) f cdv A outer s H E).nox (bj st) t∧t {nx:=fun _ H'=>Q .non H',rt:=Q} (cy N vs) H):FnOk P w K mg base gT (k+1) f fd ps sp:=by
  obtain ⟨oc,od,kV,doc,pm,an,cdv,ct,osl,rfl,lk,hcd⟩:=F.ex
  refine vq lk hcd S len fun A outer s H vs Q E hr hsp=>?_
  obtain ⟨t,h,q⟩:=hbody cdv A outer s H vs Q E hr hsp
  exact ⟨t,h.nox,q⟩
theorem Fun.binds {x qual:Str} {st:Stmt} {f:Addr} {fd:FuncData} {ps:List Str} (F:Fun K x qual st f fd)
    (h:∀(kV doc pm:Value) (an:Option Addr) (cdv ct:Value) (us:List Value),us.length=ps.length→bindArgs (PySem.W.fnOf x qual (b7 st) (bj st) (aj st) .none kV doc pm an cdv ct) ⟨us,[]⟩=pure (ps.zip us)):Binds K fd ps []:=by
  obtain ⟨oc,od,kV,doc,pm,an,cdv,ct,osl,rfl,lk,hcd⟩:=F.ex
  exact .all (h kV doc pm an cdv ct)
theorem iH {x qual:Str} {st:Stmt} {f:Addr} {oc:Value} {od an:Option Addr} {osl:Array (Option Value)} {kV doc pm cdv ct:Value} (l:K.lookup f=some ⟨oc,od, .func (PySem.W.fnOf x qual (b7 st) (bj st) (aj st) .none kV doc pm an cdv ct),osl⟩)
    (c:PySem.W.codeIn K cdv qual=true) (k:PySem.W.keepIn K (.ref f)=true):Fun K x qual st f (PySem.W.fnOf x qual (b7 st) (bj st) (aj st) .none kV doc pm an cdv ct):=⟨⟨oc,od,kV,doc,pm,an,cdv,ct,osl,rfl,l,c⟩,k⟩
end
section
variable {X:Cx}
theorem pv (i:Nat) {x:Str} {pos:Pos} (hN:X.N[i]? =some x:=by rfl) (hv:vR X.env.scope x:=by first | exact Or.inl rfl | exact Or.inr (Or.inl rfl) | exact Or.inr (Or.inr rfl)) (hd:(x == ("__debug__":Str))=false:=by decide)
    (hcd:(x == ("__classdict__":Str))=false:=by decide):PE X (.Name x pos) (de i):=jB hN hv hd hcd
end
def Same (H H':Hp):Prop:=∀b o,H b=some o→H' b=some o
theorem Same.refl (H:Hp):Same H H:=fun _ _ h=>h
theorem Same.trans {H H1 H2:Hp} (a:Same H H1) (b:Same H1 H2):Same H H2:=fun c o h=>b c o (a c o h)
theorem Same.free {H H':Hp} (e:Same H H') {l:Addr} (h:H' l=Option.none):H l=Option.none:=by
  cases q:H l with
  | none=>rfl
  | some o=>
    rw [e l o q] at h
    cases h
theorem Same.seq {K:PySem.W.Frag} {H H':Hp} {a:Addr} {xs:List V} (e:Same H H') (h:SqL K H a xs):SqL K H' a xs:=by
  rcases h with (h | ⟨o,h⟩) | h
  · exact .inl (.inl (e _ _ h))
  · exact .inl (.inr ⟨o,e _ _ h⟩)
  · exact .inr h
end L2
namespace NH
section
variable {α:Type} [DecidableEq α]
def stp (r:List (α×Int)) (p:α×Int):List (α×Int):=
  match r with
  | []=>if p.2=0 then [] else [p]
  | q::r'=>if q.1=p.1 then (if q.2+p.2=0 then r' else (p.1,q.2+p.2)::r') else (if p.2=0 then q::r' else p::q::r')
def stk (c:List (α×Int)):List (α×Int):=c.foldl stp []
def Red:List (α×Int)→Prop
  | []=>True
  | [p]=>p.2≠0
  | p::q::r=>p.2≠0∧p.1≠q.1∧Red (q::r)
theorem Red.cons {p:α×Int} {r:List (α×Int)} (h0:p.2≠0) (h1:∀q∈r.head?,p.1≠q.1) (h:Red r):Red (p::r):=by
  cases r with
  | nil=>exact h0
  | cons q r=>exact ⟨h0,h1 q rfl,h⟩
theorem Red.next {p:α×Int} {r:List (α×Int)} (h:Red (p::r)):∀q∈r.head?,p.1≠q.1:=by
  cases r with
  | nil=>intro q hq;cases hq
  | cons q r=>intro q' hq;cases hq;exact h.2.1
def contr (c:List (α×Int)):List (α×Int):=c.reverse.map fun p=>(p.1,-p.2)
theorem a9 (c:List (α×Int)):(contr c).length=c.length:=by simp [contr]
def sn (w:List (α×Int)) (p:α×Int):List (α×Int):=(stp w.reverse p).reverse
def mL (p x:α×Int):List (α×Int):=if x.1=p.1 then (if x.2+p.2=0 then [] else [(p.1,x.2+p.2)]) else (if p.2=0 then [x] else [p,x])
theorem rh (p x:α×Int) (r:List (α×Int)):stp (x::r) p=mL p x++r:=by
  show (if x.1=p.1 then (if x.2+p.2=0 then r else (p.1,x.2+p.2)::r) else (if p.2=0 then x::r else p::x::r))=mL p x++r
  unfold mL
  by_cases e:x.1=p.1
  · rw [if_pos e,if_pos e];split <;> rfl
  · rw [if_neg e,if_neg e];split <;> rfl
def zW (x p:α×Int):List (α×Int):=(mL p x).reverse
end
end NH
namespace L2
open PySem PySem.Spec PyProof.Rows
theorem hV {H:Hp} {p:Addr} (h:H p=none) (o:HO):Same H (upd H p o):=fun b u q=>by rw [am (aG q h)];exact q
theorem Same.tup {K:PySem.W.Frag} {H H':Hp} {a:Addr} {xs:List V} (e:Same H H') (h:SqT K H a xs):SqT K H' a xs:=by
  rcases h with (h | ⟨o,h⟩) | h
  · exact .inl (.inl (e _ _ h))
  · exact .inl (.inr ⟨o,e _ _ h⟩)
  · exact .inr h
def SameBut (l:Addr) (H H':Hp):Prop:=∀b o,b≠l→H b=some o→H' b=some o
theorem SameBut.upd {H:Hp} {l:Addr} (o:HO):SameBut l H (upd H l o):=fun b u hb q=>by rw [am hb];exact q
theorem SameBut.trans {H H1 H2:Hp} {l:Addr} (a:SameBut l H H1) (b:SameBut l H1 H2):SameBut l H H2:=fun c o hc q=>b c o hc (a c o hc q)
theorem SameBut.same {H H':Hp} {l:Addr} (a:SameBut l H H') (h:H l=none):Same H H':=fun b o q=>a b o (aG q h) q
theorem SameBut.tup {K:PySem.W.Frag} {H H':Hp} {l a:Addr} {xs ys:List V} (e:SameBut l H H') (hl:H l=some (.lst ys)) (h:SqT K H a xs):SqT K H' a xs:=by
  rcases h with (h | ⟨o,h⟩) | h
  · exact .inl (.inl (e _ _ (vh h hl (by intro z;cases z)) h))
  · exact .inl (.inr ⟨o,e _ _ (vh h hl (by intro z;cases z)) h⟩)
  · exact .inr h
mutual
inductive DOf (K:PySem.W.Frag) (H:Hp):V→PyData→Prop
  | non:DOf K H .non .none
  | bl (b:Bool):DOf K H (.bl b) (.bool b)
  | int (i:Int):DOf K H (.int i) (.int i)
  | str (x:Str):DOf K H (.str x) (.str x)
  | lst {a:Addr} {xs:List V} {ds:List PyData}:SqL K H a xs→DAll K H xs ds→DOf K H (.ref a) (.list ds)
  | tup {a:Addr} {xs:List V} {ds:List PyData}:SqT K H a xs→DAll K H xs ds→DOf K H (.ref a) (.tuple ds)
inductive DAll (K:PySem.W.Frag) (H:Hp):List V→List PyData→Prop
  | nil:DAll K H [] []
  | cons {x:V} {xs:List V} {d:PyData} {ds:List PyData}:DOf K H x d→DAll K H xs ds→DAll K H (x::xs) (d::ds)
end
section
variable {X:Cx} {pins:List (Addr×Obj)} {σ:St} {H:Hp} {s:Shared}
theorem DOf.reads (I:Inv X pins σ H s) {x:V} {d:PyData} {u:Value} (h:DOf X.K H x d) (r:RelV x u):∃as,Reads s.heap u d as:=DOf.rec (motive_1:=fun x d _=>∀{u:Value},RelV x u→∃as,Reads s.heap u d as) (motive_2:=fun xs ds _=>∀{us:List Value},Vals xs us→∃as,ReadsAll s.heap us ds as)
    (fun r=>by cases r;exact ⟨_,Reads.none⟩) (fun b _ r=>by cases r;exact ⟨_,Reads.bool b⟩) (fun i _ r=>by obtain ⟨t,rfl⟩:=r;exact ⟨_,Reads.int i t⟩) (fun x _ r=>by obtain ⟨t,rfl⟩:=r;exact ⟨_,Reads.str x t⟩)
    (fun hq _ ih _ r=>by
      cases r
      obtain ⟨its,rv,⟨o,n,e,c,_,d⟩,_⟩:=I.list hq
      obtain ⟨as,q⟩:=ih rv
      exact ⟨_,reads_list_at e c d (by simpa using q)⟩)
    (fun hq _ ih _ r=>by
      cases r
      obtain ⟨its,rv,⟨o,e,c,n,d⟩,_⟩:=I.tuple hq
      obtain ⟨as,q⟩:=ih rv
      exact ⟨_,reads_tuple_at e c d (by simpa using q)⟩)
    (fun r=>by cases r;exact ⟨_,ReadsAll.nil⟩)
    (fun _ _ a b _ r=>by
      cases r with
      | cons r rt=>
        obtain ⟨as,q⟩:=a r
        obtain ⟨bs,p⟩:=b rt
        exact ⟨_,ReadsAll.cons q p⟩) h r
end
def yc (K:PySem.W.Frag):R2:=fun x y H Q=>∃d e,DOf K H x d∧DOf K H y e∧SeqAt.shaped d=true∧SeqAt.shaped e=true∧Q (.bl (PyData.eqv d e)) H
def yd (K:PySem.W.Frag):R2:=fun x y H Q=>∃d e,DOf K H x d∧DOf K H y e∧SeqAt.shaped d=true∧SeqAt.shaped e=true∧Q (.bl (!PyData.eqv d e)) H
theorem rj {X:Cx} (hu:X.A.units+64 < cLine):OpR X (compareOp .Eq) (yc X.K):=by
  intro pins s σ H x y v u Q I rx ry h
  obtain ⟨d,e,hd,he,s1,s2,q⟩:=h
  obtain ⟨as,ra⟩:=hd.reads I rx
  obtain ⟨bs,rb⟩:=he.reads I ry
  exact eq_dataH ra rb s1 s2 hu ⟨.bl _,H,I,rfl,q⟩
theorem rk {X:Cx} (hu:X.A.units+64 < cLine):OpR X (compareOp .NotEq) (yd X.K):=by
  intro pins s σ H x y v u Q I rx ry h
  obtain ⟨d,e,hd,he,s1,s2,q⟩:=h
  obtain ⟨as,ra⟩:=hd.reads I rx
  obtain ⟨bs,rb⟩:=he.reads I ry
  exact ne_dataH ra rb s1 s2 hu ⟨.bl _,H,I,rfl,q⟩
def zj (K:PySem.W.Frag) (a:Addr) (xs:List V):It:=
  ⟨fun i H=>SqL K H a xs∧i < xs.length,fun i H x H'=>H'=H∧xs.reverse[i]? =some x,fun i H=>SqL K H a xs∧i=xs.length⟩
theorem rl {P:Program} {w:World} {K:PySem.W.Frag} {tg:Expr} (a it:Addr) (xs:List V):Turn P w K tg (zj K a xs) [it] it (fun i h=>h.IsRevIter it a ((xs.length:Int) - 1 - (i:Int))) where
  mem:=by simp
  obj:=fun i h st b hb=>by
    have e:b=it:=by simpa using hb
    subst e
    obtain ⟨o,e,c,d⟩:=st
    exact ⟨o,e,fun v z=>by rw [d] at z;cases z⟩
  keep:=fun i h h' st k=>st.at fun o e=>k it (by simp) o e
  item:=by
    intro X hP hw hK hc i pins s σ H E I hf st hg
    subst hP hw hK
    obtain ⟨hq,hx⟩:=hg
    obtain ⟨its,rv,p,hz⟩:=I.list hq
    have hlen:=rv.length
    have e0:(xs.length:Int) - 1 - (i:Int)=((xs.length - 1 - i:Nat):Int):=by omega
    have hget:xs.reverse[i]? =xs[xs.length - 1 - i]? :=List.getElem?_reverse hx
    obtain ⟨x,hx'⟩:∃x,xs[xs.length - 1 - i]? =some x:=⟨xs[xs.length - 1 - i]'(by omega),List.getElem?_eq_getElem (by omega)⟩
    obtain ⟨u,hu,ru⟩:=rv.get hx'
    obtain ⟨f0,f1,f2,f3,f4,f5⟩:=hf it (by simp)
    have st1:s.heap.IsRevIter it a ((xs.length - 1 - i:Nat):Int):=by rw [←e0];exact st
    refine wpAny_pyNext_rev_item st1 p.isList (x:=u) (by simpa using hu) fun h' st' sb=>?_
    have I1:Inv X pins σ H {s with heap:=h'}:=I.turned (t':=s.toks) (fun b o hb e=>(sb.2 b hb).trans e) f0 f1 f3 f4 f5
    have e1:((xs.length - 1 - i:Nat):Int) - 1=(xs.length:Int) - 1 - ((i+1:Nat):Int):=by omega
    have st2:h'.IsRevIter it a ((xs.length:Int) - 1 - ((i+1:Nat):Int)):=by rw [←e1];exact st'
    obtain ⟨o,e,c,d⟩:=id st'
    exact ⟨u,rfl,mG (s:={s with heap:=h'}) e c d (by decide) ⟨x,H,I1,ru,⟨rfl,hget.trans hx'⟩,st2,fun b hb=>(hf b hb).1⟩⟩
  done:=by
    intro X hP hw hK hc i pins s σ H E I hf st hg
    subst hP hw hK
    obtain ⟨hq,hx⟩:=hg
    obtain ⟨f0,f1,f2,f3,f4,f5⟩:=hf it (by simp)
    have e0:(xs.length:Int) - 1 - (i:Int)= -1:=by omega
    have st1:s.heap.IsRevIter it a (-1):=by rw [←e0];exact st
    exact wpAny_pyNext_rev_end (I.ok.hd hc) st1 fun h' eb=>⟨rfl,I.turned (t':=s.toks) (fun b o hb e=>eb b o hb e) f0 f1 f3 f4 f5⟩
  self:=fun _ _ _ _ _ st h=>wpAny_pyIter_revIter st h
section
variable {X:Cx} {tg:Expr}
def zk (K:PySem.W.Frag) (tl:TA):TI:=fun σ H R=>tl σ H fun vs H1=>∃a xs,vs=[.ref a]∧SqL K H1 a xs∧R (zj K a xs) H1
theorem wo {l:Expr} {tl:TA} {p pos:Pos} (hg:Gl X "reversed") (hm:X.mg "reversed"=none) (ha:PA X [l] tl) (hs:starEach [l] X.env=[(false,eval l X.env)]:=by rfl):PI X tg (.Call (.Name "reversed" p) [l] [] pos) (zk X.K tl):=by
  intro pins s σ H R I h
  refine Call_ (iE I hg hm boot_reversed (PyProof.Rows.callWith_type1 (cI (ha pos pins s σ H _ I h) fun us s1 ⟨vs,H1,I1,r1,q1⟩=>?_) hs rfl))
  obtain ⟨a,xs,e,hq,q⟩:=q1
  subst e
  cases r1 with
  | cons r rr=>
    cases rr
    cases r
    obtain ⟨its,rv,p,hz⟩:=I1.list hq
    have hlen:=rv.length
    refine call_reversed_list p.isList ?_
    have hit:(s1.heap.push (revObj a (((its.toArray).size:Int) - 1))).IsRevIter s1.heap.objs.size a ((xs.length:Int) - 1 - ((0:Nat):Int)):=by
      refine ⟨_,Heap.get?_push_size _ rfl,rfl,?_⟩
      have e1:((its.toArray.size:Nat):Int) - 1=(xs.length:Int) - 1 - ((0:Nat):Int):=by rw [List.size_toArray];omega
      show Data.fields #[.ref a,rawInt ((its.toArray.size:Int) - 1)]=_
      rw [e1]
    have I2:Inv X pins σ H1 {s1 with heap:=s1.heap.push (revObj a (((its.toArray).size:Int) - 1))}:=I1.kept (t':=s1.toks) fun b o e=>Heap.get?_push_of_some _ e
    refine wpAny_pyIter_revIter hit ?_
    refine ⟨s1.heap.objs.size,[s1.heap.objs.size],_,_,H1,rfl,I2,rl a _ xs,hit,fun b hb=>?_,q⟩
    have e:b=s1.heap.objs.size:=by simpa using hb
    subst e
    have f:=I1.fpOk (H':=H1) (Nat.le_refl _) (I1.hok.fresh (Nat.le_refl _))
    exact f
end
end L2
namespace L2
open PySem PySem.Spec PyProof.Rows
section
variable {prog:Program} {w:World} {A:Around} {R:Result→Shared→Prop} {s:Shared}
theorem lE {elt target iter:Expr} {ifs:List Expr} {scope:Scope} {pos:Pos} {it acc:Value} {env:Env} (I:Nat→Shared→Prop)
    (turn:∀n s,I n s→wpAny (model prog w) A (pyNext it) (fun r s₁=>match r with
      | none=>R (.ok .next) s₁
      | some v=>wpAny (model prog w) A (letOwnedTupleGo target it v) (fun _ s₁'=>wpAny (model prog w) A (assign target env v) (fun _ s₂=>
          wpAny (model prog w) A (forIn ifs true fun c r=>if r=true then do let ok ←isTrue c env (eval c env);pure (ForInStep.yield ok) else pure (ForInStep.yield r)) (fun ok s₃=>
            if ok=true then wpAny (model prog w) A (eval elt env) (fun x s₄=>
              wpAny (model prog w) A (call (.builtin "list.append") [acc,x]) (fun _ s₅=>∃m,m < n∧I m s₅) (fun _ _=>False) s₄) (fun _ _=>False) s₃
            else ∃m,m < n∧I m s₃) (fun _ _=>False) s₂) (fun _ _=>False) s₁') (fun _ _=>False) s₁) (fun _ _=>False) s)
    (n:Nat) (h:I n s):
    codeAny (model prog w) A (.compLoop (.ListComp elt [⟨target,iter,ifs,0⟩] scope pos) 0 it acc env) R s:=by
  refine codeAny_loop rfl I (fun n s hI=>?_) n h
  show wpAny _ A ((compTurn (.ListComp elt [⟨target,iter,ifs,0⟩] scope pos) 0 it acc env).onRaise (fun x=>do noteFrame x env;theTreesLotGoes x)) _ _ s
  refine wpAny_noted ?_
  rw [compTurn_list]
  refine wpAny_bind (wpAny_standAt (wpAny_bind (wpAny_mono (turn n s hI) (fun r s₁ h₁=>?_) fun _ _ h'=>h'.elim)))
  cases r with
  | none=>exact wpAny_pure h₁
  | some v=>
    refine wpAny_bind (wpAny_mono h₁ (fun _ s₁' h₁'=>?_) fun _ _ h'=>h'.elim)
    refine wpAny_bind (wpAny_mono h₁' (fun _ s₂ h₂=>wpAny_bind (wpAny_mono h₂ (fun ok s₃ h₃=>?_) fun _ _ h'=>h'.elim)) fun _ _ h'=>h'.elim)
    cases ok with
    | false=>exact wpAny_pure ⟨rfl,h₃⟩
    | true=>
      exact wpAny_bind (wpAny_bind (wpAny_mono h₃ (fun x s₄ h₄=>wpAny_bind (wpAny_mono h₄ (fun _ s₅ h₅=>wpAny_pure (wpAny_pure ⟨rfl,h₅⟩)) fun _ _ h'=>h'.elim)) fun _ _ h'=>h'.elim))
end
def Cx.comp (X:Cx) (sc:Scope) (cl:List (Str×Addr)) (N:List Str) (C:Addr) (s₀:Shared) (H₀:Hp) (fp:List Addr):Cx:=
  ⟨X.prog,X.w,X.K,X.mg,X.base,X.A,N,s₀,H₀,⟨sc,C,X.env.globals,cl,X.env.qual,none,X.env.code,X.env.frame,X.env.builtins⟩,X.stack,X.stack,fp,fun _=>false,X.calm,[],fun _ _=>False⟩
def yR (X:Cx) (ifs:List Expr) (t:TT):Prop:=
  ∀(pins:List (Addr×Obj)) (s:Shared) (σ:St) (H:Hp) (Q:Bool→Hp→Prop),Inv X pins σ H s→t σ H Q→
    wpAny (model X.prog X.w) X.A (forIn ifs true fun c r=>if r=true then do let ok ←isTrue c X.env (eval c X.env);pure (ForInStep.yield ok) else pure (ForInStep.yield r)) (TP X pins σ Q) X.xe s
def rm:TT:=fun _ H Q=>Q true H
theorem lG {X:Cx}:yR X [] rm:=fun _ _ _ H _ I h=>wpAny_tests_nil ⟨H,I,h⟩
def slots (js:List (Option Nat)) (σ:St):St:=js.map fun j=>j.bind fun j=>(σ[j]?).join
def mM (js:List (Option Nat)) (wi:TI) (g:TG) (tt:TT) (te:TE):TE:=fun σ H Q=>wi σ H fun J H1=>∀l,H1 l=none→∃W:Nat→Nat→St→Hp→Prop,(∃m,W 0 m (slots js σ) (upd H1 l (.lst [])))∧
  ∀i m σ' H',W i m σ' H'→(J.stop i H'∧Q (.ref l) H')∨(J.go i H'∧∃N:St→Hp→Prop,(∀σ' H',N σ' H'→∃m',m' < m∧W (i+1) m' σ' H')∧∀x H2,J.yld i H' x H2→g x σ' H2 fun σ3 H3=>tt σ3 H3 fun b H4=>
    if b=true then te σ3 H4 fun y H5=>∃ys,H5 l=some (.lst ys)∧ys.length < sizeLine∧N σ3 (upd H5 l (.lst (ys++[y]))) else N σ3 H4)
section
variable {X:Cx} {elt target iter:Expr} {ifs:List Expr} {scope sc:Scope} {cl:List (Str×Addr)} {N:List Str} {pos:Pos} {wi:TI} {g:TG} {tt:TT} {te:TE} {js:List (Option Nat)}
structure CompOk (X:Cx) (scope sc:Scope) (cl:List (Str×Addr)) (N:List Str) (js:List (Option Nat)):Prop where
  clos:closureFor scope X.env=pure cl
  rel:relabel scope X.env=sc
  nocell:∀y∈scope.names,y.2≠ .cell
  kind:scope.kind= .function
  names:∀y∈scope.names,y.2= .local→scope.names.lookup y.1=some .local
  same:∀x c,cl.lookup x=some c→X.env.cells.lookup x=some c
  has:∀x,(sc.names.lookup x=some .cell∨sc.names.lookup x=some .free)→∃c,cl.lookup x=some c
  len:js.length=N.length
  from_:∀(i j:Nat),js[i]? =some (some j)→∃x,N[i]? =some x∧X.N[j]? =some x∧(sc.names.lookup x=some .cell∨sc.names.lookup x=some .free)∧(X.env.kindOf x=some .cell∨X.env.kindOf x=some .free)
theorem mO {use:Option (Value→Sem Unit)} {Qv:Value→Shared→Prop} (K:CompOk X scope sc cl N js) (hc:X.calm=true) (hi:PI X target iter wi)
    (hgg:∀C s₀ H₀ fp,PG (X.comp sc cl N C s₀ H₀ fp) target g) (htt:∀C s₀ H₀ fp,yR (X.comp sc cl N C s₀ H₀ fp) ifs tt) (hee:∀C s₀ H₀ fp,PE (X.comp sc cl N C s₀ H₀ fp) elt te)
    (hs:∀x,foldedSetIterable iter X.env x=pure x) (pins:List (Addr×Obj)) (s:Shared) (σ:St) (H:Hp) (Q:VK) (I:Inv X pins σ H s) (h:mM js wi g tt te σ H Q)
    (hend:∀(D C:Addr) (H4:Hp) (s5:Shared) (m:Str→Option Value),Inv X pins σ H4 s5→s5.heap.Ns C m→H4 C=none→C≠X.env.locals→C∉X.fs→X.s₀.heap.objs.size≤C→(∀x c,X.env.cells.lookup x=some c→c≠C)→(∀p∈X.pn++pins,p.1≠C)→Q (.ref D) H4→
      compPost (model X.prog X.w) X.A X.xe use Qv (.ref D) C (.ok .next) s5):
    wpAny (model X.prog X.w) X.A (comprehension (.ListComp elt [⟨target,iter,ifs,0⟩] scope pos) scope X.env (firstIterPos [⟨target,iter,ifs,0⟩] pos) (newList []) false (firstIter [⟨target,iter,ifs,0⟩] X.env) use) Qv X.xe s:=by
  refine wpAny_comprehension_free (use:=use) rfl hs K.clos K.kind K.names (cI (hi pins s σ H _ I h) fun v s1 h1=>cI h1 fun itv s2 h2=>?_)
  obtain ⟨it,fp,tn,J,H2,e,I2,T,st2,f2,R⟩:=h2
  subst e
  refine wpAny_newObj_type (wpAny_newFunctionEnv K.nocell (by intro y hy;simp at hy) (fun h₁ hns₁ hsb₁=>?_) K.kind)
  dsimp only at hns₁ hsb₁ ⊢
  have I3:Inv X pins σ (upd H2 s2.heap.objs.size (.lst [])) {s2 with heap:=s2.heap.push {cls:= .type "list",dict:=none,data:= .seq ([]:List Value).toArray}}:=
    I2.lnew (t':=s2.toks) (its:=[]) .nil (Nat.zero_le _)
  obtain ⟨W,⟨m0,w0⟩,turn⟩:=R s2.heap.objs.size (I2.hok.fresh (Nat.le_refl _))
  generalize hP:s2.heap.push {cls:= .type "list",dict:=none,data:= .seq ([]:List Value).toArray}=h3 at hns₁ hsb₁ I3 ⊢
  generalize hD:s2.heap.objs.size=D at w0 turn I3 ⊢
  have hsz3:h3.objs.size=D+1:=by rw [←hP,Heap.size_push,hD]
  have old3:∀b o,s2.heap.get? b=some o→h3.get? b=some o:=fun b o e=>by rw [←hP];exact Heap.get?_push_of_some _ e
  have old:∀b o,h3.get? b=some o→h₁.get? b=some o:=fun b o e=>hsb₁.extBut b o (Nat.ne_of_lt (Heap.lt_size e)) (Heap.get?_push_of_some _ e)
  have fpD:∀b∈fp,b < D:=fun b hb=>by
    obtain ⟨o,e,_⟩:=T.obj _ _ st2 b hb
    rw [←hD];exact Heap.lt_size e
  have frD:∀b∈fp,(upd H2 D (.lst [])) b=none:=fun b hb=>by rw [am (Nat.ne_of_lt (fpD b hb))];exact (f2 b hb).1
  have f3:∀b∈fp,ka X pins (upd H2 D (.lst [])) b:=fun b hb=>⟨frD b hb,(f2 b hb).2⟩
  have Hfresh:∀a,h3.objs.size≤a→(upd H2 D (.lst [])) a=none:=fun a ha=>I3.hok.fresh ha
  have cellC:∀x c,X.env.cells.lookup x=some c→c < h3.objs.size:=fun x c e=>by
    obtain ⟨v,q⟩:=I3.cell x c e
    exact q.lt
  have YOk:(X.comp sc cl N h3.objs.size {s2 with heap:=h3} (upd H2 D (.lst [])) fp).Ok:=by
    refine ⟨I3.ok.mod,?_,I3.ok.glob,I3.ok.blt,Nat.le_refl _,fun x y c e1 e2=>I3.ok.inj x y c (K.same x c e1) (K.same y c e2),fun x hx=>K.has x hx,fun x c hf _=>absurd hf (by intro z;cases z),I3.ok.hd,I3.ok.frames, .inl rfl,fun b hb=>⟨?_,fun x c e=>(f2 b hb).2.2.2.2.1 x c (K.same x c e)⟩,
      I3.bs,Nat.le_trans I3.ok.bsz I3.sz,fun b o e hb=>?_,fun b hb hm=>?_,I3.stack,I3.stkFree,I3.tab⟩
    · rw [←K.rel];exact K.kind
    · exact Nat.ne_of_lt (by rw [hsz3];exact Nat.lt_succ_of_lt (fpD b hb))
    · rcases (f2 b hb).2.2.2.1 with z | z
      · exact I3.ok.noex b o e z
      · exact absurd (Nat.lt_of_lt_of_le (Heap.lt_size (I3.ok.bs b o e).1) z) (Nat.lt_irrefl _)
    · rcases List.mem_cons.mp (I3.stkSub b hm) with z | z
      · exact (f2 b hb).2.1 z
      · exact (f2 b hb).2.2.1 z
  have IY:Inv (X.comp sc cl N h3.objs.size {s2 with heap:=h3} (upd H2 D (.lst [])) fp) [] (slots js σ) (upd H2 D (.lst [])) {s2 with heap:=h₁,toks:=s2.toks+([]:List (Str×Value)).length}:=by
    refine ⟨YOk,rfl,I3.bare,Un.kept old,⟨_,hns₁,fun i x v e1 e2 e3=>?_⟩,fun x c e=>?_,Hfresh _ (Nat.le_refl _),fun x c e=>I3.freeC x c (K.same x c e),fun p hp=>absurd (show p∈([]:List (Addr×Obj)) from hp) (by simp),I3.hok.kept old,?_⟩
    · unfold slots at e2
      rw [List.getElem?_map] at e2
      cases ej:js[i]? with
      | none=>rw [ej] at e2;cases e2
      | some jo=>
        rw [ej] at e2
        cases jo with
        | none=>cases e2
        | some j=>
          obtain ⟨y,n1,n2,k1,k2⟩:=K.from_ i j ej
          have exy:y=x:=Option.some.inj (n1.symm.trans e1)
          subst exy
          have e2':(σ[j]?).join=some v:=Option.some.inj e2
          have e4:σ[j]? =some (some v):=by
            cases es:σ[j]? with
            | none=>rw [es] at e2';cases e2'
            | some w=>rw [es] at e2';exact congrArg some e2'
          obtain ⟨m,_,hl⟩:=I3.loc
          obtain ⟨u,ru,lk⟩:=hl j y v n2 e4 (by
            rcases k2 with z | z
            · exact .inr (.inl z)
            · exact .inr (.inr z))
          refine ⟨u,ru, .inr ⟨k1,?_⟩⟩
          obtain ⟨c,hcl⟩:=K.has y k1
          refine ⟨c,hcl,?_⟩
          rcases lk with ⟨z,_⟩ | ⟨_,c',e5,ic⟩
          · rcases k2 with q | q
            · rw [q] at z;cases z
            · rw [q] at z;cases z
          · have:c'=c:=Option.some.inj (e5.symm.trans (K.same y c hcl))
            subst this
            obtain ⟨o,ho,hd⟩:=ic
            exact ⟨o,old _ _ ho,hd⟩
    · obtain ⟨v,o,ho,hd⟩:=I3.cell x c (K.same x c e)
      exact ⟨v,o,old _ _ ho,hd⟩
    · unfold slots;rw [List.length_map];exact K.len
  have loop:∀s₃:Shared,s₃={s2 with heap:=h₁,toks:=s2.toks+([]:List (Str×Value)).length}→
      codeAny (model X.prog X.w) X.A (.compLoop (.ListComp elt [⟨target,iter,ifs,0⟩] scope pos) 0 (.ref it) (.ref D) (X.comp sc cl N h3.objs.size {s2 with heap:=h3} (upd H2 D (.lst [])) fp).env)
        (compPost (model X.prog X.w) X.A X.xe use Qv (.ref D) h3.objs.size) s₃:=by
    rintro s₃ rfl
    refine lE (fun n s'=>∃i σ' H',Inv (X.comp sc cl N h3.objs.size {s2 with heap:=h3} (upd H2 D (.lst [])) fp) [] σ' H' s'∧tn i s'.heap∧(∀b∈fp,H' b=none)∧W i n σ' H') ?_ m0
      ⟨0,_,_,IY,T.keep _ _ _ st2 (fun b hb o e=>old b o (old3 b o e)),frD,w0⟩
    rintro n s4 ⟨i,σ4,H4,I4,st4,fr4,w4⟩
    have ff:∀{H':Hp},(∀b∈fp,H' b=none)→∀b∈fp,ka (X.comp sc cl N h3.objs.size {s2 with heap:=h3} (upd H2 D (.lst [])) fp) [] H' b:=fun hn b hb=>
      ⟨hn b hb,(YOk.exf b hb).1,YOk.exfs b hb, .inl hb,(YOk.exf b hb).2,fun p hp=>absurd (show p∈([]:List (Addr×Obj)) from hp) (by simp)⟩
    have hg:=hgg h3.objs.size {s2 with heap:=h3} (upd H2 D (.lst [])) fp
    have ht:=htt h3.objs.size {s2 with heap:=h3} (upd H2 D (.lst [])) fp
    have he:=hee h3.objs.size {s2 with heap:=h3} (upd H2 D (.lst [])) fp
    rcases turn i n σ4 H4 w4 with ⟨stop,qn⟩ | ⟨go,Nx,hN,step⟩
    · refine cI (T.done (X.comp sc cl N h3.objs.size {s2 with heap:=h3} (upd H2 D (.lst [])) fp) rfl rfl rfl hc i [] s4 σ4 H4 _ I4 (ff fr4) st4 stop) fun r s5 ⟨hr,I5⟩=>?_
      subst hr
      obtain ⟨m,hn,_⟩:=I5.loc
      have IX:Inv X pins σ H4 s5:=I3.call' (ch:=fp) I5.os I5.base I5.hok I5.bare fun b hb=>⟨(f3 b hb).2.2.2.1,(f3 b hb).2.1,(f3 b hb).2.2.2.2.1,(f3 b hb).2.2.2.2.2⟩
      exact hend D h3.objs.size H4 s5 m IX hn I5.free (Ne.symm (Nat.ne_of_lt I3.lt)) (I3.nofs (Nat.le_refl _)) I3.sz (fun x c e=>Nat.ne_of_lt (cellC x c e)) (fun p hp=>Nat.ne_of_lt (Heap.lt_size (I3.pin p hp).1)) qn
    · refine cI (T.item (X.comp sc cl N h3.objs.size {s2 with heap:=h3} (upd H2 D (.lst [])) fp) rfl rfl rfl hc i [] s4 σ4 H4 _ I4 (ff fr4) st4 go) fun r s5 ⟨u,hr,h5⟩=>?_
      subst hr
      refine cI h5 fun _ s6 ⟨x,H6,I6,r6,y6,st6,fr6⟩=>?_
      have I6':=I6.pinned (ff fr6) (T.obj _ _ st6)
      have back:∀{σ7:St} {H7:Hp} {s7:Shared},Inv (X.comp sc cl N h3.objs.size {s2 with heap:=h3} (upd H2 D (.lst [])) fp) ([]++jC fp s6.heap) σ7 H7 s7→
          Inv (X.comp sc cl N h3.objs.size {s2 with heap:=h3} (upd H2 D (.lst [])) fp) [] σ7 H7 s7∧tn (i+1) s7.heap∧∀b∈fp,H7 b=none:=fun {σ7 H7 s7} I7=>
        ⟨I7.unpinned,T.keep _ _ _ st6 fun b hb o e=>(I7.pin (b,o) (List.mem_append_right _ (List.mem_append_right _ (fO hb e)))).1,fun b hb=>by
          obtain ⟨o,e,d⟩:=T.obj _ _ st6 b hb
          exact (I7.pin (b,o) (List.mem_append_right _ (List.mem_append_right _ (fO hb e)))).2.1⟩
      refine cI (hg _ s6 σ4 H6 x u _ I6' r6 (step x H6 y6)) fun _ s7 ⟨σ7,H7,I7,q7⟩=>?_
      refine cI (ht _ s7 σ7 H7 _ I7 q7) fun b s8 ⟨H8,I8,q8⟩=>?_
      cases b with
      | false=>
        obtain ⟨m',hm,w8⟩:=hN σ7 H8 q8
        obtain ⟨J1,J2,J3⟩:=back I8
        exact ⟨m',hm,i+1,σ7,H8,J1,J2,J3,w8⟩
      | true=>
        refine cI (he _ s8 σ7 H8 _ I8 q8) fun yv s9 ⟨y,H9,I9,r9,ys,hl,hz,n9⟩=>?_
        obtain ⟨m',hm,w9⟩:=hN _ _ n9
        refine cI (kL _ s9 σ7 H9 (.ref D) [y] (.ref D) [yv] (fun v H'=>v= .non∧H'=upd H9 D (.lst (ys++[y]))) I9 rfl (.cons r9 .nil) ⟨D,ys,y,rfl,rfl,hl,hz,rfl,rfl⟩) fun _ sA ⟨_,HA,IA,_,_,eA⟩=>?_
        subst eA
        obtain ⟨J1,J2,J3⟩:=back IA
        exact ⟨m',hm,i+1,σ7,_,J1,J2,J3,w9⟩
  rw [K.rel]
  exact codeAny_compStart_list (loop _ rfl) (T.self _ 0 _ _ _ (T.keep _ _ _ st2 (fun b hb o e=>old b o (old3 b o e))) (loop _ rfl))
theorem oV (K:CompOk X scope sc cl N js) (hc:X.calm=true) (hi:PI X target iter wi)
    (hgg:∀C s₀ H₀ fp,PG (X.comp sc cl N C s₀ H₀ fp) target g) (htt:∀C s₀ H₀ fp,yR (X.comp sc cl N C s₀ H₀ fp) ifs tt) (hee:∀C s₀ H₀ fp,PE (X.comp sc cl N C s₀ H₀ fp) elt te)
    (hs:∀x,foldedSetIterable iter X.env x=pure x:=by intro _;rfl):PE X (.ListComp elt [⟨target,iter,ifs,0⟩] scope pos) (mM js wi g tt te):=by
  intro pins s σ H Q I h
  rw [eval_ListComp]
  refine mO (use:=none) K hc hi hgg htt hee hs pins s σ H Q I h fun D C H4 s5 m IX hn fC nL _ sz nc np qn=>?_
  exact ⟨m,hn,fun h' hs'=>⟨.ref D,H4,IX.turned (t':=s5.toks) (it:=C) (fun b o hb e=>(hs'.2 b hb).trans e) fC nL (.inr sz) nc np,rfl,qn⟩⟩
theorem ul {x:Str} {px spos:Pos} {gx:TG} (K:CompOk X scope sc cl N js) (hc:X.calm=true) (hx:PG X (.Name x px) gx) (hi:PI X target iter wi)
    (hgg:∀C s₀ H₀ fp,PG (X.comp sc cl N C s₀ H₀ fp) target g) (htt:∀C s₀ H₀ fp,yR (X.comp sc cl N C s₀ H₀ fp) ifs tt) (hee:∀C s₀ H₀ fp,PE (X.comp sc cl N C s₀ H₀ fp) elt te)
    (hs:∀x,foldedSetIterable iter X.env x=pure x:=by intro _;rfl) (hsw:swapsWith (.ListComp elt [⟨target,iter,ifs,0⟩] scope pos) (some (.Name x px)) spos.line X.env=pure true:=by rfl):
    PS X (.Assign [.Name x px] (.ListComp elt [⟨target,iter,ifs,0⟩] scope pos) spos) (v5 (mM js wi g tt te) gx):=by
  intro pins s σ H D I h
  rw [exec_Assign_Name_used _ _ _ _ hsw]
  refine wpAny_bind (wpAny_standAt (wpAny_bind ?_))
  show wpAny _ _ (comprehension (.ListComp elt [⟨target,iter,ifs,0⟩] scope pos) scope X.env (firstIterPos [⟨target,iter,ifs,0⟩] pos) (newList []) false (firstIter [⟨target,iter,ifs,0⟩] X.env) (some (assign (.Name x px) X.env)) >>= fun _=>pure ()) _ _ _
  refine wpAny_bind (wpAny_mono (mO (use:=some (assign (.Name x px) X.env)) (Qv:=fun _ s'=>∃σ' H',Inv X pins σ' H' s'∧D.nx σ' H') K hc hi hgg htt hee hs pins s σ H _ I h fun Dd C H4 s5 m IX hn fC nL nF sz nc np qn=>?_) (fun _ s' ⟨σ',H',I',q'⟩=>wpAny_pure (wpAny_pure ⟨σ',H',I',q'⟩)) fun _ _ e=>e)
  obtain ⟨o,es,ep,ho,hd,r⟩:=hn
  have IP:Inv X ((C,o)::pins) σ H4 s5:=IX.pins_of fun p hp=>(List.mem_cons.mp hp).elim (fun z=>by subst z;exact ⟨ho,fC,nL,nF,fun v z=>by rw [hd] at z;cases z⟩) fun z=>IX.pin p (List.mem_append_right _ z)
  refine wpAny_mono (hx ((C,o)::pins) s5 σ H4 (.ref Dd) (.ref Dd) D.nx IP rfl qn) (fun _ s6 ⟨σ6,H6,I6,q6⟩=>?_) fun _ _ e=>e
  obtain ⟨p1,p2,_⟩:=I6.pin (C,o) (List.mem_append_right _ (List.mem_cons_self ..))
  have I7:Inv X pins σ6 H6 s6:=I6.pins_of fun p hp=>I6.pin p (List.mem_append_right _ (List.mem_cons_of_mem _ hp))
  exact ⟨m,⟨o,es,ep,p1,hd,r⟩,fun h' hs'=>⟨σ6,H6,I7.turned (t':=s6.toks) (it:=C) (fun b o hb e=>(hs'.2 b hb).trans e) p2 nL (.inr sz) nc np,q6⟩⟩
end
end L2
namespace L2
open PySem PySem.Spec PyProof.Rows
theorem dJ {X:Cx} {scope:Scope} {N:List Str} {js:List (Option Nat)} (hf:∀x∈scope.names,x.2≠ .free:=by decide+kernel) (hcell:∀x∈scope.names,x.2≠ .cell:=by decide+kernel)
    (hk:scope.kind= .function:=by rfl) (hn:∀y∈scope.names,y.2= .local→scope.names.lookup y.1=some .local:=by decide+kernel) (hl:js.length=N.length:=by rfl) (hj:∀j∈js,j=none:=by decide):CompOk X scope scope [] N js where
  clos:=closureFor_none hf
  rel:=by
    unfold relabel
    have e:(scope.names.map fun (x:Str×NameKind)=>match x with | (n,k)=>if (k == .free&&X.env.scope.kind == .function&&X.env.kindOf n == some .cell) then (n,NameKind.cell) else (n,k))=scope.names:=by
      refine map_eq_self fun x hx=>?_
      obtain ⟨n,k⟩:=x
      have:(k == NameKind.free)=false:=by simpa using hf _ hx
      simp [this]
    rw [e]
  nocell:=hcell
  kind:=hk
  names:=hn
  same:=fun x c e=>by simp at e
  has:=fun x h=>by
    rcases h with h | h
    · exact absurd rfl (hcell _ (PySem.mem_of_lookup h))
    · exact absurd rfl (hf _ (PySem.mem_of_lookup h))
  len:=hl
  from_:=fun i j h=>by
    have:=hj _ (List.mem_of_getElem? h)
    cases this
theorem um {σ:St} {H:Hp} {A B:Bool→Hp→Prop} (h:A true H):rm σ H (fun b H4=>if b=true then A b H4 else B b H4):=by
  show (if true=true then A true H else B true H)
  rw [if_pos rfl]
  exact h
theorem pR {i:Nat} {x:V} {σ:St} {H:Hp} {A B:St→Bool→Hp→Prop} (h:A (σ.set i (some x)) true H):kF i x σ H (fun σ3 H3=>rm σ3 H3 fun b H4=>if b=true then A σ3 b H4 else B σ3 b H4):=
  um (σ:=σ.set i (some x)) (A:=A (σ.set i (some x))) (B:=B (σ.set i (some x))) h
structure Own (P:Program) (w:World) (K:PySem.W.Frag) (mg:Str→Option Value) (base:Heap) (k:Nat) (x:Str) (ps:List Str) (sp:Sp):Prop where
  ex:∃(f:Addr) (fd:FuncData),FnOk P w K mg base gT k f fd ps sp∧Binds K fd ps []∧mg x=some (.ref f)∧PySem.W.keepIn K (.ref f)=true
theorem rq {X:Cx} {k:Nat} {x:Str} {ps:List Str} {sp:Sp} {p pos:Pos} {e:Expr} {es:List Expr} {t:TA} (D:Own X.prog X.w X.K X.mg X.base k x ps sp) (hr:Room k X.A) (hg:Gl X x) (ha:PA X (e::es) t)
    (hdb:(x == ("__debug__":Str))=false:=by decide) (he:starEach (e::es) X.env=(false,eval e X.env)::starEach es X.env:=by rfl) (hpl:(backTo pos (starEach es X.env)).any (·.1)=false:=by rfl):
    PE X (.Call (.Name x p) (e::es) [] pos) (vp sp [] E0 t):=by
  obtain ⟨f,fd,F,b,m,kp⟩:=D.ex
  exact ue F hr hg m kp b .nil oU ha hdb he hpl
structure Def (K:PySem.W.Frag) (mg:Str→Option Value) (x:Str) (st:Stmt) (ps:List Str):Prop where
  ex:∃(f:Addr) (fd:FuncData),Fun K x x st f fd∧mg x=some (.ref f)∧Binds K fd ps []
theorem Def.own {P:Program} {w:World} {K:PySem.W.Frag} {mg:Str→Option Value} {base:Heap} {x:Str} {st:Stmt} {N ps:List Str} {k:Nat} {sp:Sp} (D:Def K mg x st ps) (S:FnScope N ps (aj st))
    (len:∀vs H Q E,sp vs H Q E→vs.length=ps.length)
    (hbody:∀(f:Addr) (cdv:Value) (A:Around) (outer:List Env) (s:Shared) (H:Hp) (vs:List V) (Q:VK) (E:XK),Room k (A.deeper (envOfC x (aj st) s.heap.objs.size f cdv))→sp vs H Q E→
      ∃t,PSs (gq gT P w K mg base N x (aj st) f cdv A outer s H E).nox (bj st) t∧t {nx:=fun _ H'=>Q .non H',rt:=Q} (cy N vs) H):Own P w K mg base (k+1) x ps sp:=by
  obtain ⟨f,fd,F,m,b⟩:=D.ex
  exact ⟨f,fd,F.ok S len (hbody f),b,m,F.kp⟩
theorem wq {K:PySem.W.Frag} {h:Heap} {mg:Str→Option Value} {x:Str} {st:Stmt} {ps:List Str} {f:Addr} {oc:Value} {od an:Option Addr} {osl:Array (Option Value)} {kV doc pm cdv ct:Value} (X:K.In h) (G:h.Ns mainGlobals mg)
    (a:PySem.W.nsIn K mainGlobals x=some (some (.ref f))) (l:K.lookup f=some ⟨oc,od, .func (PySem.W.fnOf x x (b7 st) (bj st) (aj st) .none kV doc pm an cdv ct),osl⟩)
    (c:PySem.W.codeIn K cdv x=true) (k:PySem.W.keepIn K (.ref f)=true)
    (b:∀(kV doc pm:Value) (an:Option Addr) (cdv ct:Value) (us:List Value),us.length=ps.length→bindArgs (PySem.W.fnOf x x (b7 st) (bj st) (aj st) .none kV doc pm an cdv ct) ⟨us,[]⟩=pure (ps.zip us)):Def K mg x st ps:=
  ⟨f,_,iH l c k,PySem.W.mg_of X G a,(iH (st:=st) l c k).binds b⟩
end L2
namespace Nh
open PySem L2
section
variable {α β:Type} {F:α→β→Prop}
theorem gK:∀{a:List α} {b:List β} {c:List α} {d:List β},Paired F a b→Paired F c d→Paired F (a++c) (b++d)
  | _,_,_,_, .nil,s=>s
  | _,_,_,_, .cons r t,s=> .cons r (gK t s)
theorem oW:∀{a:List α} {b:List β} (n:Nat),Paired F a b→Paired F (a.take n) (b.take n)
  | _,_,0,_=> .nil
  | _,_,_+1, .nil=> .nil
  | _,_,n+1, .cons r t=> .cons r (oW n t)
theorem oX:∀{a:List α} {b:List β} (n:Nat),Paired F a b→Paired F (a.drop n) (b.drop n)
  | _,_,0,r=>r
  | _,_,_+1, .nil=> .nil
  | _,_,n+1, .cons _ t=>oX n t
theorem gW:∀{a:List α} {b:List β},Paired F a b→Paired F a.reverse b.reverse
  | _,_, .nil=> .nil
  | _,_, .cons r t=>by
    rw [List.reverse_cons,List.reverse_cons]
    exact gK (gW t) (.cons r .nil)
theorem rz:∀{a:List α} {b:List β} {i:Nat} {x:α},Paired F a b→a[i]? =some x→∃y,b[i]? =some y∧F x y
  | _,_,_,_, .nil,e=>by simp at e
  | _,_,0,_, .cons r _,e=>by simp at e;subst e;exact ⟨_,rfl,r⟩
  | _,_,i+1,x, .cons _ t,e=>by
    obtain ⟨u,h1,h2⟩:=rz (i:=i) (x:=x) t (by simpa using e)
    exact ⟨u,by simpa using h1,h2⟩
theorem oY:∀{a:List α} {b:List β} {i:Nat} {y:β},Paired F a b→b[i]? =some y→∃x,a[i]? =some x∧F x y
  | _,_,_,_, .nil,e=>by simp at e
  | _,_,0,_, .cons r _,e=>by simp at e;subst e;exact ⟨_,rfl,r⟩
  | _,_,i+1,x, .cons _ t,e=>by
    obtain ⟨u,h1,h2⟩:=oY (i:=i) (y:=x) t (by simpa using e)
    exact ⟨u,by simpa using h1,h2⟩
theorem rA {a:List α} {b:List β} (h:Paired F a b):∀k:Nat,Paired F (List.replicate k a).flatten (List.replicate k b).flatten
  | 0=> .nil
  | k+1=>by
    rw [List.replicate_succ,List.replicate_succ,List.flatten_cons,List.flatten_cons]
    exact gK h (rA h k)
end
abbrev Pc:=Nat×Int
def tv (p:Pc):List V:=[.str ⟨#[p.1]⟩, .int p.2]
def zm (H:Hp) (v:V) (p:Pc):Prop:=∃t,v= .ref t∧H t=some (.tup (tv p))
abbrev PAll (H:Hp):List V→List Pc→Prop:=Paired (zm H)
section
variable {H H':Hp} {l:Addr} {xs ys:List V} {c:List Pc}
theorem PAll.same (s:Same H H') (h:PAll H xs c):PAll H' xs c:=Paired.mapP h fun _ _ ⟨t,e,q⟩=>⟨t,e,s _ _ q⟩
theorem PAll.len (h:PAll H xs c):xs.length=c.length:=Paired.length h
end
def Cord (H:Hp) (a:Addr) (c:List Pc):Prop:=∃xs,H a=some (.lst xs)∧PAll H xs c
section
variable {H H':Hp} {a:Addr} {c d:List Pc}
theorem Cord.same (s:Same H H') (h:Cord H a c):Cord H' a c:=let ⟨xs,e,p⟩:=h;⟨xs,s _ _ e,p.same s⟩
end
def aJ (p:Pc):PyData:= .tuple [.str ⟨#[p.1]⟩, .int p.2]
def ye (c:List Pc):PyData:= .list (c.map aJ)
def NailsOk (c:List Pc):Prop:=∀p∈c,p.1 < 128
theorem kM {K:PySem.W.Frag} {H:Hp}:∀{xs:List V} {c:List Pc},PAll H xs c→DAll K H xs (c.map aJ)
  | _,_, .nil=> .nil
  | _,_, .cons ⟨t,e,q⟩ r=>by
    subst e
    exact .cons (.tup (SqT.of q) (.cons (.str _) (.cons (.int _) .nil))) (kM r)
theorem Cord.data {K:PySem.W.Frag} {H:Hp} {a:Addr} {c:List Pc} (h:Cord H a c):DOf K H (.ref a) (ye c):=
  let ⟨_,e,p⟩:=h; .lst (SqL.of e) (kM p)
theorem yf {p:Pc} (h:p.1 < 128):(aJ p).canLay0=true:=by
  have:p.1 < 1114112:=by omega
  simp [aJ,PyData.canLay0,PyData.canLayAll0,PyData.strOk,this]
theorem wr (p q:Pc):PyData.eqv (aJ p) (aJ q)=decide (p=q):=by
  obtain ⟨n,a⟩:=p
  obtain ⟨m,b⟩:=q
  simp only [aJ,PyData.eqv,PyData.eqvAll,Bool.and_true]
  rw [Bool.eq_iff_iff]
  simp
end Nh
namespace PL
open PySem PySem.Spec PyProof.Rows L2 Nh
def zn:dG→PyData
  | .inl i=> .int i
  | .inr x=> .str x
def eD (a C:Addr):Heap→Prop:=fun h=>∃o,h.get? a=some o∧o.cls= .ref C
def i3:List Str:=["pieces","cord","made","text"]
def pS:PyData×PyData→Bool
  | (.none, .tuple [.str _])=>true
  | _=>false
abbrev cR (cn:Str) (kvs:List (PyData×PyData)):PyData:= .dict ((.none, .tuple [.str cn])::kvs)
mutual
inductive Rp (K:PySem.W.Frag) (H:Hp):V→PyData→Prop
  | non:Rp K H .non .none
  | bl (b:Bool):Rp K H (.bl b) (.bool b)
  | int (i:Int):Rp K H (.int i) (.int i)
  | str (x:Str):Rp K H (.str x) (.str x)
  | lst {a:Addr} {xs:List V} {ds:List PyData}:SqL K H a xs→RpA K H xs ds→Rp K H (.ref a) (.list ds)
  | tup {a:Addr} {xs:List V} {ds:List PyData}:SqT K H a xs→RpA K H xs ds→Rp K H (.ref a) (.tuple ds)
  | dct {a:Addr} {us:List (dG×V)} {kvs:List (PyData×PyData)}:Rd H a (.dK us)→RpK K H us kvs→Rp K H (.ref a) (.dict kvs)
  | obj {a C dx:Addr} {cn:Str} {fs:List (Str×V)} {kvs:List (PyData×PyData)}:PySem.W.nsIn K mainGlobals cn=some (some (.ref C))→H a=some (.ins C dx fs)→(∀m∈i3,fs.lookup m=none)→RpN K H fs kvs→Rp K H (.ref a) (.dict ((.none, .tuple [.str cn])::kvs))
  | exc {a C:Addr} {n:Str} {o:Obj}:H a=some (.frz o (.ext (eD a C)))→PySem.W.nsIn K mainGlobals n=some (some (.ref C))→Rp K H (.ref a) (.dict [(.none, .str n)])
inductive RpA (K:PySem.W.Frag) (H:Hp):List V→List PyData→Prop
  | nil:RpA K H [] []
  | cons {x:V} {xs:List V} {d:PyData} {ds:List PyData}:Rp K H x d→RpA K H xs ds→RpA K H (x::xs) (d::ds)
inductive RpK (K:PySem.W.Frag) (H:Hp):List (dG×V)→List (PyData×PyData)→Prop
  | nil:RpK K H [] []
  | cons {k:dG} {x:V} {us:List (dG×V)} {d:PyData} {kvs:List (PyData×PyData)}:Rp K H x d→RpK K H us kvs→RpK K H ((k,x)::us) ((zn k,d)::kvs)
inductive RpN (K:PySem.W.Frag) (H:Hp):List (Str×V)→List (PyData×PyData)→Prop
  | nil {fs:List (Str×V)}:RpN K H fs []
  | cons {fs:List (Str×V)} {f:Str} {x:V} {d:PyData} {kvs:List (PyData×PyData)}:fs.lookup f=some x→Rp K H x d→RpN K H fs kvs→RpN K H fs ((.str f,d)::kvs)
  | frl {fs:List (Str×V)} {f:Str} {l:Addr} {o:Obj} {xs:List V} {kvs:List (PyData×PyData)}:fs.lookup f=some (.ref l)→H l=some (.frz o (.lst xs))→RpN K H fs kvs→RpN K H fs ((.tuple [.str f], .int xs.length)::kvs)
end
mutual
def aO:PyData→Bool
  | .none=>true
  | .bool _=>true
  | .int _=>true
  | .str _=>true
  | .list _=>false
  | .tuple xs=>aZ xs
  | .dict kvs=>kN kvs
def aZ:List PyData→Bool
  | []=>true
  | d::ds=>aO d&&aZ ds
def mP:PyData×PyData→Bool
  | (_,d)=>aO d
def i4:List (PyData×PyData)→Bool
  | []=>true
  | p::r=>mP p&&i4 r
def kN:List (PyData×PyData)→Bool
  | []=>false
  | p::r=>pS p&&i4 r
end
def vt:HO→Bool
  | .tup _=>true
  | .frz _ _=>true
  | .ins _ _ _=>true
  | _=>false
def tups (H:Hp):Hp:=fun b=>(H b).filter vt
theorem iI (H:Hp):Same (tups H) H:=fun b o h=>(Option.filter_eq_some_iff.mp h).1
theorem dN {H:Hp} {b:Addr} {o:HO} (h:H b=some o) (c:vt o=true):tups H b=some o:=Option.filter_eq_some_iff.mpr ⟨h,c⟩
theorem jI {H:Hp} {l:Addr} {xs ys:List V} (h:H l=some (.lst xs)):tups (upd H l (.lst ys))=tups H:=by
  funext b
  unfold tups
  by_cases e:b=l
  · subst e
    rw [upd_same,h]
    rfl
  · rw [am e]
section
variable {K:PySem.W.Frag} {H H':Hp}
theorem RpK.hot {us:List (dG×V)} {kvs:List (PyData×PyData)} (h:RpK K H us kvs):aO (.dict kvs)=false:=by
  cases h with
  | nil=>rfl
  | @cons k x us d kvs a b=>cases k <;> rfl
theorem rB {a:Addr} {xs:List V} (h:SqT K H a xs):SqT K (tups H) a xs:=by
  rcases h with (h | ⟨o,h⟩) | h
  · exact .inl (.inl (dN h rfl))
  · exact .inl (.inr ⟨o,dN h rfl⟩)
  · exact .inr h
theorem uo {a:Addr} {u:HO} (s:Same H H') (h:Rd H a u):Rd H' a u:=by
  rcases h with h | ⟨o,h⟩
  · exact .inl (s _ _ h)
  · exact .inr ⟨o,s _ _ h⟩
mutual
theorem Rp.same (s:Same H H'):∀{v:V} {d:PyData},Rp K H v d→Rp K H' v d
  | _,_, .non=> .non
  | _,_, .bl b=> .bl b
  | _,_, .int i=> .int i
  | _,_, .str x=> .str x
  | _,_, .lst h r=> .lst (s.seq h) (RpA.same s r)
  | _,_, .tup h r=> .tup (s.tup h) (RpA.same s r)
  | _,_, .dct h r=> .dct (uo s h) (RpK.same s r)
  | _,_, .obj c h n r=> .obj c (s _ _ h) n (RpN.same s r)
  | _,_, .exc h r=> .exc (s _ _ h) r
theorem RpA.same (s:Same H H'):∀{v:List V} {d:List PyData},RpA K H v d→RpA K H' v d
  | _,_, .nil=> .nil
  | _,_, .cons h r=> .cons (Rp.same s h) (RpA.same s r)
theorem RpK.same (s:Same H H'):∀{v:List (dG×V)} {d:List (PyData×PyData)},RpK K H v d→RpK K H' v d
  | _,_, .nil=> .nil
  | _,_, .cons h r=> .cons (Rp.same s h) (RpK.same s r)
theorem RpN.same (s:Same H H'):∀{v:List (Str×V)} {d:List (PyData×PyData)},RpN K H v d→RpN K H' v d
  | _,_, .nil=> .nil
  | _,_, .cons l h r=> .cons l (Rp.same s h) (RpN.same s r)
  | _,_, .frl l h r=> .frl l (s _ _ h) (RpN.same s r)
end
mutual
theorem Rp.cold:∀{v:V} {d:PyData},Rp K H v d→aO d=true→Rp K (tups H) v d
  | _,_, .non,_=> .non
  | _,_, .bl b,_=> .bl b
  | _,_, .int i,_=> .int i
  | _,_, .str x,_=> .str x
  | _,_, .lst h r,e=>by simp [aO] at e
  | _,_, .dct h r,e=>by rw [r.hot] at e;cases e
  | _,_, .obj c h n r,e=> .obj c (dN h rfl) n (RpN.cold r (by simpa [aO,kN,pS] using e))
  | _,_, .exc h r,e=>by simp [aO,kN,pS] at e
  | _,_, .tup h r,e=> .tup (rB h) (RpA.cold r (by simpa [aO] using e))
theorem RpA.cold:∀{v:List V} {d:List PyData},RpA K H v d→aZ d=true→RpA K (tups H) v d
  | _,_, .nil,_=> .nil
  | _,_, .cons h r,e=>by
    simp only [aZ,Bool.and_eq_true] at e
    exact .cons (Rp.cold h e.1) (RpA.cold r e.2)
theorem RpN.cold:∀{v:List (Str×V)} {d:List (PyData×PyData)},RpN K H v d→i4 d=true→RpN K (tups H) v d
  | _,_, .nil,_=> .nil
  | _,_, .cons l h r,e=>by
    simp only [i4,mP,Bool.and_eq_true] at e
    exact .cons l (Rp.cold h e.1) (RpN.cold r e.2)
  | _,_, .frl l h r,e=>by
    simp only [i4,Bool.and_eq_true] at e
    exact .frl l (dN h rfl) (RpN.cold r e.2)
end
mutual
theorem Rp.dof':∀{v:V} {d:PyData},Rp K H v d→d.canLay0=true→DOf K H v d
  | _,_, .non,_=> .non
  | _,_, .bl b,_=> .bl b
  | _,_, .int i,_=> .int i
  | _,_, .str x,_=> .str x
  | _,_, .lst h r,e=> .lst h (RpA.dof' r (by simpa [PyData.canLay0] using e))
  | _,_, .tup h r,e=> .tup h (RpA.dof' r (by simpa [PyData.canLay0] using e))
  | _,_, .dct h r,e=>by simp [PyData.canLay0] at e
  | _,_, .obj c h n r,e=>by simp [PyData.canLay0] at e
  | _,_, .exc h r,e=>by simp [PyData.canLay0] at e
theorem RpA.dof':∀{v:List V} {d:List PyData},RpA K H v d→PyData.canLayAll0 d=true→DAll K H v d
  | _,_, .nil,_=> .nil
  | _,_, .cons h r,e=>by
    simp only [PyData.canLayAll0,Bool.and_eq_true] at e
    exact .cons (Rp.dof' h e.1) (RpA.dof' r e.2)
end
theorem Rp.dof {v:V} {d:PyData} (h:Rp K H v d) (e:SeqAt.shaped d=true):DOf K H v d:=h.dof' (SeqAt.canLay_of_shaped e)
theorem RpA.pr:∀{vs:List V} {ds:List PyData},RpA K H vs ds→Paired (Rp K H) vs ds
  | _,_, .nil=> .nil
  | _,_, .cons h r=> .cons h (RpA.pr r)
theorem RpA.of {vs:List V} {ds:List PyData} (h:Paired (Rp K H) vs ds):RpA K H vs ds:=by
  induction h with
  | nil=>exact .nil
  | cons a _ b=>exact .cons a b
theorem RpA.len {vs:List V} {ds:List PyData} (h:RpA K H vs ds):vs.length=ds.length:=Paired.length h.pr
theorem RpA.append {vs us:List V} {ds es:List PyData} (h:RpA K H vs ds) (k:RpA K H us es):RpA K H (vs++us) (ds++es):= .of (gK h.pr k.pr)
theorem RpA.take {vs:List V} {ds:List PyData} (n:Nat) (h:RpA K H vs ds):RpA K H (vs.take n) (ds.take n):= .of (oW n h.pr)
theorem RpA.drop {vs:List V} {ds:List PyData} (n:Nat) (h:RpA K H vs ds):RpA K H (vs.drop n) (ds.drop n):= .of (oX n h.pr)
theorem RpA.rev {vs:List V} {ds:List PyData} (h:RpA K H vs ds):RpA K H vs.reverse ds.reverse:= .of (gW h.pr)
theorem RpA.rep {vs:List V} {ds:List PyData} (n:Nat) (h:RpA K H vs ds):RpA K H (List.replicate n vs).flatten (List.replicate n ds).flatten:= .of (rA h.pr n)
theorem RpA.get {vs:List V} {ds:List PyData} {i:Nat} {d:PyData} (h:RpA K H vs ds) (e:ds[i]? =some d):∃v,vs[i]? =some v∧Rp K H v d:=oY h.pr e
theorem RpA.getV {vs:List V} {ds:List PyData} {i:Nat} {v:V} (h:RpA K H vs ds) (e:vs[i]? =some v):∃d,ds[i]? =some d∧Rp K H v d:=rz h.pr e
theorem RpA.set:∀{vs:List V} {ds:List PyData} {v:V} {d:PyData} (i:Nat),RpA K H vs ds→Rp K H v d→RpA K H (vs.set i v) (ds.set i d)
  | _,_,_,_,_, .nil,_=> .nil
  | _,_,_,_,0, .cons _ r,h=> .cons h r
  | _,_,_,_,i+1, .cons q r,h=> .cons q (RpA.set i r h)
theorem RpA.snoc {vs:List V} {ds:List PyData} {v:V} {d:PyData} (h:RpA K H vs ds) (k:Rp K H v d):RpA K H (vs++[v]) (ds++[d]):=h.append (.cons k .nil)
end
inductive Pt where
  | fl (d:PyData) | ol (ds:List PyData)
def Pt.val:Pt→PyData
  | .fl d=>d
  | .ol ds=> .list ds
inductive Sl where
  /-- nothing is known -/
  | no
  /-- never written again -/
  | sh (d:PyData)
  /-- a list of one's own -/
  | ow (ds:List PyData)
  /-- a dict of one's own,its values lists of one's own -/
  | od (kvs:List (dG×List PyData))
  /-- a tuple with lists of one's own -/
  | tx (ps:List Pt)
  /-- (a part of an expression) the value of a name -/
  | al (i:Nat)
  /-- (a part of an expression) as it stands just now -/
  | br (d:PyData)
def PtsOk (K:PySem.W.Frag) (F H:Hp):List V→List Pt→List Addr→Prop
  | [],[],A=>A=[]
  | v::vs, .fl d::ps,A=>Rp K F v d∧PtsOk K F H vs ps A
  | v::vs, .ol ds::ps,A=>∃l us A',v= .ref l∧A=l::A'∧H l=some (.lst us)∧RpA K F us ds∧PtsOk K F H vs ps A'
  | _,_,_=>False
def DlOk (K:PySem.W.Frag) (F H:Hp):List (dG×V)→List (dG×List PyData)→List Addr→Prop
  | [],[],A=>A=[]
  | p::us,q::kvs,A=>∃l vs A',p=(q.1, .ref l)∧A=l::A'∧H l=some (.lst vs)∧RpA K F vs q.2∧DlOk K F H us kvs A'
  | _,_,_=>False
def SlOk (K:PySem.W.Frag) (F H:Hp) (σ:L2.St) (o:Option V):Sl→List Addr→Prop
  | .no,A=>A=[]
  | .sh d,A=>A=[]∧∃v,o=some v∧Rp K F v d
  | .ow ds,A=>∃l vs,o=some (.ref l)∧A=[l]∧H l=some (.lst vs)∧RpA K F vs ds
  | .od kvs,A=>∃l us A',o=some (.ref l)∧A=l::A'∧H l=some (.dK us)∧DlOk K F H us kvs A'
  | .tx ps,A=>∃t vs,o=some (.ref t)∧F t=some (.tup vs)∧PtsOk K F H vs ps A
  | .al i,A=>A=[]∧∃v,o=some v∧σ[i]? =some (some v)
  | .br d,A=>A=[]∧∃v,o=some v∧Rp K H v d
def Sl.isBr:Sl→Bool
  | .br _=>true
  | _=>false
def Sl.isAl:Sl→Bool
  | .al _=>true
  | .br _=>true
  | _=>false
section
variable {K:PySem.W.Frag} {F F' H H':Hp} {σ σ':L2.St}
theorem PtsOk.stay (s:Same F F'):∀{vs:List V} {ps:List Pt} {A:List Addr},(∀b∈A,H' b=H b)→PtsOk K F H vs ps A→PtsOk K F' H' vs ps A
  | [],[],A,_,h=>h
  | v::vs, .fl d::ps,A,e,h=>⟨h.1.same s,PtsOk.stay s e h.2⟩
  | v::vs, .ol ds::ps,A,e,h=>by
    obtain ⟨l,us,A',rfl,rfl,hl,hr,q⟩:=h
    exact ⟨l,us,A',rfl,rfl,(e l (List.mem_cons_self ..)).trans hl,hr.same s,q.stay s fun b hb=>e b (List.mem_cons_of_mem _ hb)⟩
  | [],_::_,_,_,h=>False.elim h
  | _::_,[],_,_,h=>False.elim h
theorem DlOk.stay (s:Same F F'):∀{us:List (dG×V)} {kvs:List (dG×List PyData)} {A:List Addr},(∀b∈A,H' b=H b)→DlOk K F H us kvs A→DlOk K F' H' us kvs A
  | [],[],A,_,h=>h
  | p::us,q::kvs,A,e,h=>by
    obtain ⟨l,vs,A',rfl,rfl,hl,hr,k⟩:=h
    exact ⟨l,vs,A',rfl,rfl,(e l (List.mem_cons_self ..)).trans hl,hr.same s,k.stay s fun b hb=>e b (List.mem_cons_of_mem _ hb)⟩
  | [],_::_,_,_,h=>False.elim h
  | _::_,[],_,_,h=>False.elim h
theorem DlOk.some:∀{us:List (dG×V)} {kvs:List (dG×List PyData)} {A:List Addr},DlOk K F H us kvs A→∀a∈A,∃vs,H a=some (.lst vs)
  | [],[],A,h,a,ha=>by rw [show A=[] from h] at ha;cases ha
  | p::us,q::kvs,A,h,a,ha=>by
    obtain ⟨l,vs,A',rfl,rfl,hl,hr,k⟩:=h
    rcases List.mem_cons.mp ha with e | e
    · subst e;exact ⟨vs,hl⟩
    · exact k.some a e
  | [],_::_,_,h,_,_=>False.elim h
  | _::_,[],_,h,_,_=>False.elim h
theorem PtsOk.some:∀{vs:List V} {ps:List Pt} {A:List Addr},PtsOk K F H vs ps A→∀a∈A,∃us,H a=some (.lst us)
  | [],[],A,h,a,ha=>by rw [show A=[] from h] at ha;cases ha
  | v::vs, .fl d::ps,A,h,a,ha=>PtsOk.some h.2 a ha
  | v::vs, .ol ds::ps,A,h,a,ha=>by
    obtain ⟨l,us,A',rfl,rfl,hl,hr,q⟩:=h
    rcases List.mem_cons.mp ha with e | e
    · subst e;exact ⟨us,hl⟩
    · exact q.some a e
  | [],_::_,_,h,_,_=>False.elim h
  | _::_,[],_,h,_,_=>False.elim h
theorem PtsOk.rp (s:Same F H):∀{vs:List V} {ps:List Pt} {A:List Addr},PtsOk K F H vs ps A→RpA K H vs (ps.map Pt.val)
  | [],[],A,_=> .nil
  | v::vs, .fl d::ps,A,h=> .cons (h.1.same s) (PtsOk.rp s h.2)
  | v::vs, .ol ds::ps,A,h=>by
    obtain ⟨l,us,A',rfl,rfl,hl,hr,q⟩:=h
    exact .cons (.lst (SqL.of hl) (hr.same s)) (q.rp s)
  | [],_::_,_,h=>False.elim h
  | _::_,[],_,h=>False.elim h
theorem SlOk.stay {o:Option V} {s:Sl} {A:List Addr} (hF:Same F F') (e:∀b∈A,H' b=H b) (hb:s.isBr=true→Same H H') (h:SlOk K F H σ o s A):SlOk K F' H' σ o s A:=by
  cases s with
  | no=>exact h
  | sh d=>obtain ⟨rfl,v,rfl,r⟩:=h;exact ⟨rfl,v,rfl,r.same hF⟩
  | ow ds=>obtain ⟨l,vs,rfl,rfl,hl,r⟩:=h;exact ⟨l,vs,rfl,rfl,(e l (by simp)).trans hl,r.same hF⟩
  | od kvs=>obtain ⟨l,us,A',rfl,rfl,hl,r⟩:=h;exact ⟨l,us,A',rfl,rfl,(e l (by simp)).trans hl,r.stay hF fun b hb=>e b (List.mem_cons_of_mem _ hb)⟩
  | tx ps=>obtain ⟨t,vs,rfl,ht,r⟩:=h;exact ⟨t,vs,rfl,hF _ _ ht,r.stay hF e⟩
  | al i=>exact h
  | br d=>obtain ⟨rfl,v,rfl,r⟩:=h;exact ⟨rfl,v,rfl,r.same (hb rfl)⟩
theorem SlOk.mut {o:Option V} {s:Sl} {A:List Addr} (h:SlOk K F H σ o s A):∀a∈A,(∃us,H a=some (.lst us))∨∃us,H a=some (.dK us):=by
  cases s with
  | no=>intro a ha;rw [show A=[] from h] at ha;cases ha
  | sh d=>obtain ⟨rfl,_⟩:=h;intro a ha;cases ha
  | ow ds=>obtain ⟨l,vs,rfl,rfl,hl,r⟩:=h;intro a ha;rw [List.mem_singleton.mp ha];exact .inl ⟨_,hl⟩
  | od kvs=>
    obtain ⟨l,vs,A',rfl,rfl,hl,r⟩:=h
    intro a ha
    rcases List.mem_cons.mp ha with z | z
    · rw [z];exact .inr ⟨_,hl⟩
    · exact .inl (r.some a z)
  | tx ps=>obtain ⟨t,vs,rfl,ht,r⟩:=h;exact fun a ha=> .inl (r.some a ha)
  | al i=>obtain ⟨rfl,_⟩:=h;intro a ha;cases ha
  | br d=>obtain ⟨rfl,_⟩:=h;intro a ha;cases ha
end
inductive SAll (P:Option V→Sl→List Addr→Prop):List (Option V)→List Sl→List Addr→Prop
  | nil:SAll P [] [] []
  | cons {o:Option V} {s:Sl} {A:List Addr} {os:List (Option V)} {ss:List Sl} {B:List Addr}:P o s A→SAll P os ss B→SAll P (o::os) (s::ss) (A++B)
section
variable {P P':Option V→Sl→List Addr→Prop}
theorem SAll.len {os:List (Option V)} {ss:List Sl} {A:List Addr} (h:SAll P os ss A):os.length=ss.length:=by
  induction h with
  | nil=>rfl
  | cons _ _ b=>exact congrArg (· +1) b
theorem SAll.mono {os:List (Option V)} {ss:List Sl} {A:List Addr} (h:SAll P os ss A):(∀o s B,s∈ss→(∀b∈B,b∈A)→P o s B→P' o s B)→SAll P' os ss A:=by
  induction h with
  | nil=>exact fun _=> .nil
  | cons h _ r=>exact fun f=> .cons (f _ _ _ (List.mem_cons_self ..) (fun b hb=>List.mem_append_left _ hb) h) (r fun o s B hs hB q=>f o s B (List.mem_cons_of_mem _ hs) (fun b hb=>List.mem_append_right _ (hB b hb)) q)
theorem SAll.all {R:Addr→Prop} (hR:∀o s B,P o s B→∀b∈B,R b) {os:List (Option V)} {ss:List Sl} {A:List Addr} (h:SAll P os ss A):∀a∈A,R a:=by
  induction h with
  | nil=>exact fun _ ha=>nomatch ha
  | cons h _ r=>exact fun a ha=>(List.mem_append.mp ha).elim (hR _ _ _ h a) (r a)
theorem SAll.at:∀{os:List (Option V)} {ss:List Sl} {A:List Addr} {k:Nat} {s:Sl},SAll P os ss A→ss[k]? =some s→
    ∃o A0 A1 A2,A=A0++(A1++A2)∧os[k]? =some o∧P o s A1∧∀(P':Option V→Sl→List Addr→Prop) (o':Option V) (s':Sl) (A1':List Addr),P' o' s' A1'→
      (∀o s B,s∈ss→(∀b∈B,b∈A0∨b∈A2)→P o s B→P' o s B)→SAll P' (os.set k o') (ss.set k s') (A0++(A1'++A2))
  | _,_,_,_,_, .nil,e=>by simp at e
  | _,_,_,0,s, .cons (o:=o) (A:=A) (B:=B) h r,e=>by
    simp at e;subst e
    refine ⟨o,[],A,B,by simp,rfl,h,fun P' o' s' A1' h' f=>?_⟩
    have z:SAll P' _ _ (A1'++B):= .cons h' (r.mono (P':=P') fun o s B hs hB q=>f o s B (List.mem_cons_of_mem _ hs) (fun b hb=> .inr (hB b hb)) q)
    exact z
  | _,_,_,k+1,s, .cons (o:=o) (A:=A) (B:=B) h r,e=>by
    obtain ⟨o2,A0,A1,A2,eA,eo,hp,f⟩:=r.at (k:=k) (s:=s) (by simpa using e)
    subst eA
    refine ⟨o2,A++A0,A1,A2,by simp,by simpa using eo,hp,fun P' o' s' A1' h' g=>?_⟩
    have z:=f P' o' s' A1' h' fun o s B hs hB q=>g o s B (List.mem_cons_of_mem _ hs) (fun b hb=>(hB b hb).imp (fun x=>List.mem_append_right _ x) id) q
    rw [List.append_assoc]
    exact .cons (g _ _ _ (List.mem_cons_self ..) (fun b hb=> .inl (List.mem_append_left _ hb)) h) z
end
end PL
namespace PL
open PySem L2 Nh
abbrev Sg:=L2.St
structure FrF (K:PySem.W.Frag) (B F:Hp) (A:List Addr) (σ:Sg) (H:Hp) (E:List Sl) (xs:List V) (Xs:List Sl):Prop where
  bf:Same B F
  fh:Same F H
  tf:Same (tups H) F
  sl:SAll (SlOk K F H σ) (xs.map some++σ) (Xs++E) A
  nd:A.Nodup
  fr:∀a∈A,F a=none
  len:xs.length=Xs.length
  pl:∀s∈E,s.isAl=false
def Frm (K:PySem.W.Frag) (B:Hp) (σ:Sg) (H:Hp) (E:List Sl) (xs:List V) (Xs:List Sl):Prop:=∃F A,FrF K B F A σ H E xs Xs
def Sl.val:Sl→Option PyData
  | .sh d=>some d
  | .ow ds=>some (.list ds)
  | .tx ps=>some (.tuple (ps.map Pt.val))
  | .br d=>some d
  | _=>none
def look (E:List Sl):Sl→Option PyData
  | .al i=>(E[i]?).bind Sl.val
  | s=>s.val
def cm:Sl→Bool
  | .br _=>true
  | .tx _=>true
  | _=>false
def hot (E:List Sl):Sl→Bool
  | .al i=>(E[i]?).any cm
  | s=>cm s
def RpF (K:PySem.W.Frag) (F H:Hp) (v:V):PyData→Prop
  | .list ds=>∃a vs,v= .ref a∧SqL K H a vs∧RpA K F vs ds
  | d=>Rp K F v d
def mQ (F H:Hp) (A:List Addr):Hp:=fun b=>if b∈A then H b else F b
theorem lH {F H:Hp} {A:List Addr} {b:Addr} (h:b∈A):mQ F H A b=H b:=if_pos h
theorem jJ {F H:Hp} {A:List Addr} {b:Addr} (h:b∉A):mQ F H A b=F b:=if_neg h
section
variable {K:PySem.W.Frag} {B F:Hp} {A:List Addr} {σ:Sg} {H:Hp} {E:List Sl} {xs:List V} {Xs:List Sl} {v:V} {s:Sl} {d:PyData}
theorem RpF.of (h:Rp K F v d) (s:Same F H):RpF K F H v d:=by
  cases h with
  | lst h r=>exact ⟨_,_,rfl,s.seq h,r⟩
  | non=>exact .non
  | bl b=>exact .bl b
  | int i=>exact .int i
  | str x=>exact .str x
  | tup h r=>exact .tup h r
  | dct h r=>exact .dct h r
  | obj c h n r=>exact .obj c h n r
  | exc h r=>exact .exc h r
theorem SlOk.val {o:Option V} {A1:List Addr} (h:SlOk K F H σ o s A1) (hF:Same F H) (e:s.val=some d):∃v,o=some v∧Rp K H v d∧(cm s=false→RpF K F H v d):=by
  cases s with
  | no=>cases e
  | sh d'=>
    obtain ⟨rfl,v,rfl,r⟩:=h
    cases e
    exact ⟨v,rfl,r.same hF,fun _=>RpF.of r hF⟩
  | ow ds=>
    obtain ⟨l,vs,rfl,rfl,hl,r⟩:=h
    cases e
    exact ⟨_,rfl, .lst (SqL.of hl) (r.same hF),fun _=>⟨_,_,rfl,SqL.of hl,r⟩⟩
  | od kvs=>cases e
  | tx ps=>
    obtain ⟨t,vs,rfl,ht,r⟩:=h
    cases e
    exact ⟨_,rfl, .tup (SqT.of (hF _ _ ht)) (r.rp hF),fun z=>by cases z⟩
  | al i=>cases e
  | br d'=>
    obtain ⟨rfl,v,rfl,r⟩:=h
    cases e
    exact ⟨v,rfl,r,fun z=>by cases z⟩
theorem FrF.slen (h:FrF K B F A σ H E xs Xs):σ.length=E.length:=by
  have e:=h.sl.len
  have:=h.len
  simp only [List.length_append,List.length_map] at e
  omega
theorem FrF.var {i:Nat} (h:FrF K B F A σ H E xs Xs) (e:E[i]? =some s):∃o A1,σ[i]? =some o∧SlOk K F H σ o s A1:=by
  obtain ⟨o,A0,A1,A2,eA,eo,hp,_⟩:=h.sl.at (k:=Xs.length+i) (s:=s) (by rw [List.getElem?_append_right (by omega)];simpa using e)
  rw [List.getElem?_append_right (by rw [List.length_map,h.len];omega),List.length_map,h.len,Nat.add_sub_cancel_left] at eo
  exact ⟨o,A1,eo,hp⟩
theorem FrF.ext {k:Nat} (h:FrF K B F A σ H E xs Xs) (e:Xs[k]? =some s):∃v A1,xs[k]? =some v∧SlOk K F H σ (some v) s A1:=by
  have hk:k < Xs.length:=(List.getElem?_eq_some_iff.mp e).1
  obtain ⟨o,A0,A1,A2,eA,eo,hp,_⟩:=h.sl.at (k:=k) (s:=s) (by rw [List.getElem?_append_left hk];exact e)
  rw [List.getElem?_append_left (by rw [List.length_map,h.len];omega),List.getElem?_map] at eo
  cases q:xs[k]? with
  | none=>rw [q] at eo;cases eo
  | some v=>rw [q] at eo;cases eo;exact ⟨v,A1,rfl,hp⟩
theorem FrF.look {k:Nat} (h:FrF K B F A σ H E xs Xs) (e:Xs[k]? =some s) (q:look E s=some d):∃v,xs[k]? =some v∧Rp K H v d∧(hot E s=false→RpF K F H v d):=by
  obtain ⟨v,A1,ev,hs⟩:=h.ext e
  cases s with
  | al i=>
    obtain ⟨rfl,w,ew,hw⟩:=hs
    cases ew
    cases ei:E[i]? with
    | none=>simp [PL.look,ei] at q
    | some t=>
      obtain ⟨o,A2,eo,ht⟩:=h.var ei
      rw [hw] at eo
      cases eo
      obtain ⟨v',e',r,c⟩:=ht.val h.fh (d:=d) (by simpa [PL.look,ei] using q)
      cases e'
      exact ⟨v,ev,r,fun z=>c (by simpa [hot,ei] using z)⟩
  | no=>cases q
  | od kvs=>cases q
  | sh d'=>obtain ⟨v',e',r,c⟩:=hs.val h.fh q;cases e';exact ⟨v,ev,r,c⟩
  | ow ds=>obtain ⟨v',e',r,c⟩:=hs.val h.fh q;cases e';exact ⟨v,ev,r,c⟩
  | tx ps=>obtain ⟨v',e',r,c⟩:=hs.val h.fh q;cases e';exact ⟨v,ev,r,c⟩
  | br d'=>obtain ⟨v',e',r,c⟩:=hs.val h.fh q;cases e';exact ⟨v,ev,r,c⟩
theorem FrF.look0 (h:FrF K B F A σ H E (v::xs) (s::Xs)) (q:PL.look E s=some d):Rp K H v d∧(hot E s=false→RpF K F H v d):=by
  obtain ⟨v',e,r⟩:=h.look (k:=0) rfl q
  cases e
  exact r
theorem FrF.look1 {w:V} {t:Sl} (h:FrF K B F A σ H E (w::v::xs) (t::s::Xs)) (q:PL.look E s=some d):Rp K H v d∧(hot E s=false→RpF K F H v d):=by
  obtain ⟨v',e,r⟩:=h.look (k:=1) rfl q
  cases e
  exact r
theorem FrF.mutA (h:FrF K B F A σ H E xs Xs):∀a∈A,(∃us,H a=some (.lst us))∨∃us,H a=some (.dK us):=
  SAll.all (R:=fun a=>(∃us,H a=some (.lst us))∨∃us,H a=some (.dK us)) (fun _ _ _ q=>q.mut) h.sl
theorem FrF.newA {p:Addr} (h:FrF K B F A σ H E xs Xs) (hp:H p=none):p∉A:=fun hm=>by
  rcases h.mutA p hm with ⟨_,z⟩ | ⟨_,z⟩ <;> rw [hp] at z <;> cases z
theorem FrF.cold {u:V} {e:PyData} (h:FrF K B F A σ H E xs Xs) (r:Rp K H u e) (f:aO e=true):Rp K F u e:=(r.cold f).same h.tf
theorem FrF.coldA {us:List V} {es:List PyData} (h:FrF K B F A σ H E xs Xs) (r:RpA K H us es) (f:aZ es=true):RpA K F us es:=(r.cold f).same h.tf
theorem FrF.push (h:FrF K B F A σ H E xs Xs) (q:SlOk K F H σ (some v) s []):FrF K B F A σ H E (v::xs) (s::Xs):=
  ⟨h.bf,h.fh,h.tf, .cons (A:=[]) q h.sl,h.nd,h.fr,by simp [h.len],h.pl⟩
theorem FrF.pop (h:FrF K B F A σ H E (v::xs) (s::Xs)):∃A',FrF K B F A' σ H E xs Xs:=by
  obtain ⟨bf,fh,tf,sl,nd,fr,len,pl⟩:=h
  generalize hT:List.map some (v::xs)++σ=T at sl
  generalize hS:(s::Xs)++E=S at sl
  cases sl with
  | nil=>cases hS
  | cons q r=>
    injection hT with _ hT
    injection hS with _ hS
    subst hT hS
    exact ⟨_,bf,fh,tf,r,(List.nodup_append.mp nd).2.1,fun a ha=>fr a (List.mem_append_right _ ha),by simpa using len,pl⟩
theorem FrF.grow {H':Hp} (h:FrF K B F A σ H E xs Xs) (g:Same H H'):FrF K B (fun b=>if b∈A then none else H' b) A σ H' E xs Xs:=by
  have nF:∀b o,F b=some o→b∉A:=fun b o e hb=>by rw [h.fr b hb] at e;cases e
  have FF:Same F (fun b=>if b∈A then none else H' b):=fun b o e=>by
    show (if b∈A then none else H' b)=some o
    rw [if_neg (nF b o e)]
    exact g _ _ (h.fh _ _ e)
  have hA:∀b∈A,H' b=H b:=fun b hb=>by
    rcases h.mutA b hb with ⟨_,z⟩ | ⟨_,z⟩ <;> rw [z,g _ _ z]
  refine ⟨h.bf.trans FF,fun b o e=>?_,fun b o e=>?_,h.sl.mono fun o s C _ hC q=>q.stay FF (fun b hb=>hA b (hC b hb)) fun _=>g,h.nd,fun a ha=>if_pos ha,h.len,h.pl⟩
  · by_cases hb:b∈A
    · rw [if_pos hb] at e;cases e
    · rw [if_neg hb] at e;exact e
  · obtain ⟨e1,e2⟩:=Option.filter_eq_some_iff.mp e
    show (if b∈A then none else H' b)=some o
    by_cases hb:b∈A
    · rw [hA b hb] at e1
      rcases h.mutA b hb with ⟨_,z⟩ | ⟨_,z⟩ <;> rw [z] at e1 <;> cases e1 <;> cases e2
    · rw [if_neg hb];exact e1
theorem FrF.newl {p:Addr} {vs:List V} {ds:List PyData} (h:FrF K B F A σ H E xs Xs) (r:RpA K F vs ds) (hp:H p=none):FrF K B F (p::A) σ (upd H p (.lst vs)) E (.ref p::xs) (.ow ds::Xs):=by
  have g:Same H (upd H p (.lst vs)):=hV hp _
  have nA:=h.newA hp
  refine ⟨h.bf,h.fh.trans g,fun b o e=>?_, .cons (A:=[p]) ⟨p,vs,rfl,rfl,upd_same,r⟩ (h.sl.mono fun o s C _ hC q=>q.stay (Same.refl _) (fun b hb=>am fun z=>nA (z▸hC b hb)) fun _=>g),List.nodup_cons.mpr ⟨nA,h.nd⟩,fun a ha=>?_,by simp [h.len],h.pl⟩
  · obtain ⟨e1,e2⟩:=Option.filter_eq_some_iff.mp e
    by_cases hb:b=p
    · subst hb;rw [upd_same] at e1;cases e1;cases e2
    · rw [am hb] at e1;exact h.tf b o (dN e1 e2)
  · rcases List.mem_cons.mp ha with z | z
    · subst z;exact h.fh.free hp
    · exact h.fr a z
theorem FrF.newt {p:Addr} {vs:List V} {ds:List PyData} (h:FrF K B F A σ H E xs Xs) (r:RpA K F vs ds) (hp:H p=none):FrF K B (upd F p (.tup vs)) A σ (upd H p (.tup vs)) E (.ref p::xs) (.sh (.tuple ds)::Xs):=by
  have g:Same H (upd H p (.tup vs)):=hV hp _
  have nA:=h.newA hp
  have gF:Same F (upd F p (.tup vs)):=hV (h.fh.free hp) _
  refine ⟨h.bf.trans gF,fun b o e=>?_,fun b o e=>?_, .cons (A:=[]) ⟨rfl,_,rfl, .tup (.inl (.inl upd_same)) (r.same gF)⟩ (h.sl.mono fun o s C _ hC q=>q.stay gF (fun b hb=>am fun z=>nA (z▸hC b hb)) fun _=>g),h.nd,fun a ha=>?_,by simp [h.len],h.pl⟩
  · by_cases hb:b=p
    · subst hb;rw [upd_same] at e ⊢;exact e
    · rw [am hb] at e ⊢;exact h.fh _ _ e
  · obtain ⟨e1,e2⟩:=Option.filter_eq_some_iff.mp e
    by_cases hb:b=p
    · subst hb;rw [upd_same] at e1 ⊢;exact e1
    · rw [am hb] at e1 ⊢;exact h.tf b o (dN e1 e2)
  · have ne:a≠p:=fun z=>nA (z▸ha)
    rw [am ne];exact h.fr a ha
theorem FrF.mut {i:Nat} {ds:List PyData} (h:FrF K B F A σ H E xs Xs) (e:E[i]? =some (.ow ds)) (c:∀s∈Xs,s.isBr=false):
    ∃l vs,σ[i]? =some (some (.ref l))∧H l=some (.lst vs)∧RpA K F vs ds∧∀vs' ds',RpA K F vs' ds'→FrF K B F A σ (upd H l (.lst vs')) (E.set i (.ow ds')) xs Xs:=by
  obtain ⟨o,A0,A1,A2,eA,eo,hp,put⟩:=h.sl.at (k:=Xs.length+i) (s:= .ow ds) (by rw [List.getElem?_append_right (by omega)];simpa using e)
  rw [List.getElem?_append_right (by rw [List.length_map,h.len];omega),List.length_map,h.len,Nat.add_sub_cancel_left] at eo
  obtain ⟨l,vs,rfl,rfl,hl,r⟩:=hp
  refine ⟨l,vs,eo,hl,r,fun vs' ds' r'=>?_⟩
  have hlA:l∈A:=by rw [eA];simp
  have nl:∀b,b∈A0∨b∈A2→b≠l:=fun b hb z=>by
    subst z
    have nd:=h.nd
    rw [eA] at nd
    rcases hb with hb | hb
    · exact (List.nodup_append.mp nd).2.2 b hb b (by simp) rfl
    · exact (List.nodup_append.mp (List.nodup_append.mp nd).2.1).2.2 b (by simp) b hb rfl
  have lF:F l=none:=h.fr l hlA
  have z:=put (SlOk K F (upd H l (.lst vs')) σ) (some (.ref l)) (.ow ds') [l] ⟨l,vs',rfl,rfl,upd_same,r'⟩ fun o s C hs hC q=>q.stay (Same.refl _) (fun b hb=>am (nl b (hC b hb))) fun z=>by
    rcases List.mem_append.mp hs with hs | hs
    · rw [c s hs] at z;cases z
    · have:=h.pl s hs
      cases s <;> simp [Sl.isAl,Sl.isBr] at this z
  have e3:(Xs++E).set (Xs.length+i) (.ow ds')=Xs++E.set i (.ow ds'):=by
    rw [List.set_append_right _ _ (by omega),Nat.add_sub_cancel_left]
  have e2:(List.map some xs++σ).set (Xs.length+i) (some (V.ref l))=List.map some xs++σ:=by
    rw [←h.len,List.set_append_right _ _ (by rw [List.length_map];omega),List.length_map,Nat.add_sub_cancel_left]
    congr 1
    exact List.ext_getElem? fun j=>by
      by_cases hj:i=j
      · subst hj
        rw [List.getElem?_set_self',eo];rfl
      · rw [List.getElem?_set_ne hj]
  rw [e2,e3,←eA] at z
  refine ⟨h.bf,fun b o q=>?_,?_,z,h.nd,h.fr,h.len,fun s hs=>?_⟩
  · rw [am (fun z=>by rw [z,lF] at q;cases q)]
    exact h.fh _ _ q
  · rw [jI hl];exact h.tf
  · rcases List.mem_or_eq_of_mem_set hs with hs | hs
    · exact h.pl s hs
    · subst hs;rfl
theorem FrF.frzAt {k:Nat} (h:FrF K B F A σ H E xs Xs) (e:(Xs++E)[k]? =some s) (q:s.val=some d) (c:s.isAl=false):
    ∃F' A' v,(xs.map some++σ)[k]? =some (some v)∧Rp K F' v d∧Same B F'∧Same F' H∧Same (tups H) F'∧SAll (SlOk K F' H σ) (xs.map some++σ) ((Xs++E).set k (.sh d)) A'∧A'.Nodup∧∀a∈A',F' a=none:=by
  obtain ⟨o,A0,A1,A2,eA,eo,hp,put⟩:=h.sl.at e
  have nd:=h.nd
  rw [eA] at nd
  have nA1:∀b o,F b=some o→b∉A1:=fun b o e hb=>by
    have:=h.fr b (by rw [eA];simp [hb])
    rw [this] at e;cases e
  have FF:Same F (mQ F H A1):=fun b o e=>by rw [jJ (nA1 b o e)];exact e
  obtain ⟨v,rfl,r⟩:∃v,o=some v∧Rp K (mQ F H A1) v d:=by
    cases s with
    | no=>cases q
    | od kvs=>cases q
    | al i=>cases c
    | br d'=>cases c
    | sh d'=>
      obtain ⟨rfl,v,rfl,r⟩:=hp
      cases q
      exact ⟨v,rfl,r.same FF⟩
    | ow ds=>
      obtain ⟨l,vs,rfl,rfl,hl,r⟩:=hp
      cases q
      exact ⟨_,rfl, .lst (SqL.of ((lH (by simp)).trans hl)) (r.same FF)⟩
    | tx ps=>
      obtain ⟨t,vs,rfl,ht,r⟩:=hp
      cases q
      refine ⟨_,rfl, .tup (SqT.of (FF _ _ ht)) ?_⟩
      have r':PtsOk K (mQ F H A1) (mQ F H A1) vs ps A1:=r.stay FF fun b hb=>lH hb
      exact r'.rp (Same.refl _)
  have e2:(List.map some xs++σ).set k (some v)=List.map some xs++σ:=List.ext_getElem? fun j=>by
    by_cases hj:k=j
    · subst hj
      rw [List.getElem?_set_self',eo];rfl
    · rw [List.getElem?_set_ne hj]
  have z:=put (SlOk K (mQ F H A1) H σ) (some v) (.sh d) [] ⟨rfl,v,rfl,r⟩ fun o s C _ hC q=>q.stay FF (fun b _=>rfl) fun _=>Same.refl _
  rw [e2] at z
  refine ⟨mQ F H A1,A0++A2,v,eo,r,h.bf.trans FF,fun b o e=>?_,fun b o e=>FF _ _ (h.tf _ _ e),by simpa using z,?_,fun a ha=>?_⟩
  · by_cases hb:b∈A1
    · rw [lH hb] at e;exact e
    · rw [jJ hb] at e;exact h.fh _ _ e
  · exact List.Nodup.sublist (List.Sublist.append (List.Sublist.refl _) (List.sublist_append_right _ _)) nd
  · have hn:a∉A1:=fun hm=>by
      rcases List.mem_append.mp ha with z | z
      · exact (List.nodup_append.mp nd).2.2 a z a (by simp [hm]) rfl
      · exact (List.nodup_append.mp (List.nodup_append.mp nd).2.1).2.2 a hm a z rfl
    rw [jJ hn]
    exact h.fr a (by rw [eA];rcases List.mem_append.mp ha with z | z <;> simp [z])
end
def frz (E:List Sl):Sl→Option (PyData×List Sl)
  | .sh d=>some (d,E)
  | .ow ds=>some (.list ds,E)
  | .tx ps=>some (.tuple (ps.map Pt.val),E)
  | .br d=>if aO d then some (d,E) else none
  | .al i=>match E[i]? with
    | some (.sh d)=>some (d,E)
    | some (.ow ds)=>some (.list ds,E.set i (.sh (.list ds)))
    | some (.tx ps)=>some (.tuple (ps.map Pt.val),E.set i (.sh (.tuple (ps.map Pt.val))))
    | _=>none
  | _=>none
section
variable {K:PySem.W.Frag} {B F:Hp} {A:List Addr} {σ:Sg} {H:Hp} {E E':List Sl} {xs:List V} {Xs:List Sl} {v:V} {s:Sl} {d:PyData}
theorem FrF.frzVar {i:Nat} (h:FrF K B F A σ H E xs Xs) (e:E[i]? =some s) (q:s.val=some d):∃F' A' v,σ[i]? =some (some v)∧Rp K F' v d∧FrF K B F' A' σ H (E.set i (.sh d)) xs Xs:=by
  obtain ⟨F',A',v,ev,r,b1,b2,b3,sl,nd,fr⟩:=h.frzAt (k:=Xs.length+i) (by rw [List.getElem?_append_right (by omega)];simpa using e) q (h.pl s (List.mem_of_getElem? e))
  rw [List.getElem?_append_right (by rw [List.length_map,h.len];omega),List.length_map,h.len,Nat.add_sub_cancel_left] at ev
  have e3:(Xs++E).set (Xs.length+i) (.sh d)=Xs++E.set i (.sh d):=by
    rw [List.set_append_right _ _ (by omega),Nat.add_sub_cancel_left]
  rw [e3] at sl
  refine ⟨F',A',v,ev,r,b1,b2,b3,sl,nd,fr,h.len,fun s hs=>?_⟩
  rcases List.mem_or_eq_of_mem_set hs with hs | hs
  · exact h.pl s hs
  · subst hs;rfl
theorem FrF.frz0 (h:FrF K B F A σ H E (v::xs) (s::Xs)) (q:PL.frz E s=some (d,E')):∃F' A',FrF K B F' A' σ H E' (v::xs) (.sh d::Xs):=by
  have key:s.val=some d→s.isAl=false→E=E'→∃F' A',FrF K B F' A' σ H E' (v::xs) (.sh d::Xs):=fun q' c e=>by
    subst e
    obtain ⟨F',A',v',ev,r,b1,b2,b3,sl,nd,fr⟩:=h.frzAt (k:=0) rfl q' c
    exact ⟨F',A',b1,b2,b3,sl,nd,fr,by simpa using h.len,h.pl⟩
  have al:∀i t,s= .al i→E[i]? =some t→t.val=some d→E'=E.set i (.sh d)→∃F' A',FrF K B F' A' σ H E' (v::xs) (.sh d::Xs):=fun i t es ei qt eE=>by
    subst es eE
    obtain ⟨v',A1,ev,hs⟩:=h.ext (k:=0) rfl
    cases ev
    obtain ⟨rfl,w,ew,hw⟩:=hs
    cases ew
    obtain ⟨F',A',w,ew,r,h'⟩:=h.frzVar ei qt
    rw [hw] at ew
    cases ew
    obtain ⟨A2,h2⟩:=h'.pop
    exact ⟨F',A2,h2.push ⟨rfl,_,rfl,r⟩⟩
  cases s with
  | no=>cases q
  | od kvs=>cases q
  | sh d'=>cases q;exact key rfl rfl rfl
  | ow ds=>cases q;exact key rfl rfl rfl
  | tx ps=>cases q;exact key rfl rfl rfl
  | br d'=>
    simp only [PL.frz] at q
    split at q
    · rename_i hf
      cases q
      obtain ⟨r,_⟩:=h.look0 (d:=d) rfl
      obtain ⟨A2,h2⟩:=h.pop
      exact ⟨F,A2,h2.push ⟨rfl,_,rfl,h.cold r hf⟩⟩
    · cases q
  | al i=>
    simp only [PL.frz] at q
    split at q
    · rename_i d' ei
      cases q
      refine al i _ rfl ei rfl ?_
      exact List.ext_getElem? fun j=>by
        by_cases hj:i=j
        · subst hj;rw [List.getElem?_set_self',ei];rfl
        · rw [List.getElem?_set_ne hj]
    · rename_i ds ei
      cases q
      exact al i _ rfl ei rfl rfl
    · rename_i ps ei
      cases q
      exact al i _ rfl ei rfl rfl
    · cases q
theorem FrF.store {i:Nat} (h:FrF K B F A σ H E (v::xs) (s::Xs)) (c:s.isAl=false) (cx:∀s∈Xs,s.isAl=false) (hi:i < E.length):∃A',FrF K B F A' (σ.set i (some v)) H (E.set i s) xs Xs:=by
  have hlen:=h.len
  have hsl:=h.slen
  obtain ⟨bf,fh,tf,sl,nd,fr,len,pl⟩:=h
  generalize hT:List.map some (v::xs)++σ=T at sl
  generalize hS:(s::Xs)++E=S at sl
  cases sl with
  | nil=>cases hS
  | cons q r=>
    rename_i A1 _ _ A2
    injection hT with h1 hT
    injection hS with h2 hS
    subst h1 h2 hT hS
    have len':xs.length=Xs.length:=by simpa using len
    have r:SAll (SlOk K F H σ) (List.map some xs++σ) (Xs++E) A2:=r
    obtain ⟨t,et⟩:∃t,E[i]? =some t:=⟨E[i],List.getElem?_eq_getElem hi⟩
    obtain ⟨o,C0,C1,C2,eA,eo,hp,put⟩:=r.at (k:=Xs.length+i) (s:=t) (by rw [List.getElem?_append_right (by omega)];simpa using et)
    have all:∀s'∈Xs++E,s'.isAl=false:=fun s' hs=>(List.mem_append.mp hs).elim (cx s') (pl s')
    have chg:∀(o:Option V) (s':Sl) (C:List Addr),s'.isAl=false→SlOk K F H σ o s' C→SlOk K F H (σ.set i (some v)) o s' C:=fun o s' C hc z=>by
      cases s' <;> first | exact z | cases hc
    have z:=put (SlOk K F H (σ.set i (some v))) (some v) s A1 (chg _ _ _ c q) fun o s' C hs _ z=>chg o s' C (all s' hs) z
    have e3:(Xs++E).set (Xs.length+i) s=Xs++E.set i s:=by
      rw [List.set_append_right _ _ (by omega),Nat.add_sub_cancel_left]
    have e2:(List.map some xs++σ).set (Xs.length+i) (some v)=List.map some xs++σ.set i (some v):=by
      rw [←len',List.set_append_right _ _ (by rw [List.length_map];omega),List.length_map,Nat.add_sub_cancel_left]
    rw [e2,e3] at z
    refine ⟨_,bf,fh,tf,z,?_,fun a ha=>fr a ?_,len',fun s' hs=>?_⟩
    · rw [eA] at nd
      have p:(C0++(A1++C2)).Perm (A1++(C0++C2)):=by
        rw [←List.append_assoc,←List.append_assoc]
        exact List.Perm.append_right _ List.perm_append_comm
      refine p.nodup_iff.mpr (List.Nodup.sublist ?_ nd)
      exact List.Sublist.append (List.Sublist.refl _) (List.Sublist.append (List.Sublist.refl _) (List.sublist_append_right _ _))
    · rw [eA]
      simp only [List.mem_append] at ha ⊢
      rcases ha with z | z | z
      · exact .inr (.inl z)
      · exact .inl z
      · exact .inr (.inr (.inr z))
    · rcases List.mem_or_eq_of_mem_set hs with hs | hs
      · exact pl s' hs
      · subst hs;exact c
end
end PL
namespace PL
open PySem L2 Nh
abbrev bY:=List Sl→Option (Sl×List Sl)
abbrev kO:=List Sl→Option (Bool×List Sl)
abbrev kP:=List Sl→Option (List Sl×List Sl)
abbrev jK:=List Sl→Option (List PyData×List Sl)
inductive Fl where
  | nx | bk | ct | rt (r:Sl)
abbrev bP:=List Sl→Option (List Sl×Fl)
abbrev Calm (Xs:List Sl):Prop:=∀s∈Xs,s.isBr=false
abbrev Still (Xs:List Sl):Prop:=∀s∈Xs,s.isAl=false
theorem Still.calm {Xs:List Sl} (h:Still Xs):Calm Xs:=fun s hs=>by
  have:=h s hs
  cases s <;> simp [Sl.isAl,Sl.isBr] at this ⊢
theorem Still.nil {Xs:List Sl} (h:Xs=[]):Still Xs:=fun s hs=>by subst h;cases hs
theorem Calm.nil {Xs:List Sl} (h:Xs=[]):Calm Xs:=(Still.nil h).calm
theorem Calm.cons {Xs:List Sl} {s:Sl} (h:Calm Xs) (hs:s.isBr=false):Calm (s::Xs):=fun t ht=>(List.mem_cons.mp ht).elim (fun e=>e▸hs) (h t)
def rd (K:PySem.W.Frag) (m:Bool) (f:bY):TE:=fun σ H Q=>∃B E xs Xs r E',Frm K B σ H E xs Xs∧(m=true→Calm Xs)∧f E=some (r,E')∧∀v H',Frm K B σ H' E' (v::xs) (r::Xs)→Q v H'
def rt (K:PySem.W.Frag) (m:Bool) (f:kO):TT:=fun σ H Q=>∃B E xs Xs b E',Frm K B σ H E xs Xs∧(m=true→Calm Xs)∧f E=some (b,E')∧∀H',Frm K B σ H' E' xs Xs→Q b H'
def ra (K:PySem.W.Frag) (m:Bool) (f:kP):TA:=fun σ H Q=>∃B E xs Xs rs E',Frm K B σ H E xs Xs∧(m=true→Calm Xs)∧f E=some (rs,E')∧∀vs H',vs.length=rs.length→Frm K B σ H' E' (vs.reverse++xs) (rs.reverse++Xs)→Q vs H'
def Ah (K:PySem.W.Frag) (m:Bool) (f:jK):TA:=fun σ H Q=>∃B E xs Xs ds E',Frm K B σ H E xs Xs∧(m=true→Calm Xs)∧f E=some (ds,E')∧∀vs H',vs.length=ds.length→Frm K B σ H' E' (vs.reverse++xs) (ds.reverse.map .sh++Xs)→Q vs H'
def rs (K:PySem.W.Frag) (g:bP):TS:=fun D σ H=>∃B E xs Xs E' fl,Frm K B σ H E xs Xs∧Xs=[]∧g E=some (E',fl)∧match fl with
  | .nx=>∀σ' H',Frm K B σ' H' E' xs Xs→D.nx σ' H'
  | .bk=>∀σ' H',Frm K B σ' H' E' xs Xs→D.bk σ' H'
  | .ct=>∀σ' H',Frm K B σ' H' E' xs Xs→D.ct σ' H'
  | .rt r=>∀σ' v H',Frm K B σ' H' E' (v::xs) (r::Xs)→D.rt v H'
def EX (X:Cx) (e:Expr) (m:Bool) (f:bY):Prop:=PE X e (rd X.K m f)
def TX (X:Cx) (e:Expr) (m:Bool) (f:kO):Prop:=PT X e (rt X.K m f)
def WX (X:Cx) (e:Expr) (m:Bool) (f:kO):Prop:=PW X e (rt X.K m f)
def AX (X:Cx) (es:List Expr) (m:Bool) (f:kP):Prop:=PA X es (ra X.K m f)
def DX (X:Cx) (es:List Expr) (m:Bool) (f:jK):Prop:=PA X es (Ah X.K m f)
def SX (X:Cx) (s:Stmt) (g:bP):Prop:=PS X s (rs X.K g)
def qz (X:Cx) (s:List Stmt) (g:bP):Prop:=PSs X s (rs X.K g)
section
variable {X:Cx}
theorem bq {e:Expr} {t t':TE} (h:PE X e t) (k:∀σ H Q,t' σ H Q→t σ H Q):PE X e t':=fun pins s σ H Q I q=>h pins s σ H Q I (k σ H Q q)
theorem lI {e:Expr} {t t':TT} (h:PT X e t) (k:∀σ H Q,t' σ H Q→t σ H Q):PT X e t':=fun pins s σ H Q I q=>h pins s σ H Q I (k σ H Q q)
theorem wt {e:Expr} {t t':TT} (h:PW X e t) (k:∀σ H Q,t' σ H Q→t σ H Q):PW X e t':=fun whole pins s σ H Q I q=>h whole pins s σ H Q I (k σ H Q q)
theorem lJ {es:List Expr} {t t':TA} (h:PA X es t) (k:∀σ H Q,t' σ H Q→t σ H Q):PA X es t':=fun pos pins s σ H Q I q=>h pos pins s σ H Q I (k σ H Q q)
theorem gX {st:Stmt} {t t':TS} (h:PS X st t) (k:∀D σ H,t' D σ H→t D σ H):PS X st t':=fun pins s σ H D I q=>h pins s σ H D I (k D σ H q)
theorem oZ {st:List Stmt} {t t':TS} (h:PSs X st t) (k:∀D σ H,t' D σ H→t D σ H):PSs X st t':=fun pins s σ H D I q=>h pins s σ H D I (k D σ H q)
end
def vv:PyData→Option V
  | .none=>some .non
  | .bool b=>some (.bl b)
  | .int i=>some (.int i)
  | .str x=>some (.str x)
  | _=>none
theorem jL {K:PySem.W.Frag} {H:Hp} {d:PyData} {v:V} (h:vv d=some v):Rp K H v d:=by
  cases d <;> simp [vv] at h <;> subst h <;> constructor
def ae (i:Nat):bY:=fun E=>match E[i]? with
  | some (.sh d)=>some (.sh d,E)
  | some (.ow _)=>some (.al i,E)
  | some (.od _)=>some (.al i,E)
  | some (.tx _)=>some (.al i,E)
  | _=>none
def pC (d:PyData):bY:=fun E=>some (.sh d,E)
section
variable {X:Cx} {K:PySem.W.Frag}
theorem ad (i:Nat) {x:Str} {pos:Pos} (hN:X.N[i]? =some x:=by rfl) (hv:vR X.env.scope x:=by first | exact Or.inl rfl | exact Or.inr (Or.inl rfl) | exact Or.inr (Or.inr rfl)) (hd:(x == ("__debug__":Str))=false:=by decide)
    (hcd:(x == ("__classdict__":Str))=false:=by decide):EX X (.Name x pos) false (ae i):=by
  refine bq (jB hN hv hd hcd) fun σ H Q h=>?_
  obtain ⟨B,E,xs,Xs,r,E',⟨F,A,fr⟩,_,e,q⟩:=h
  unfold ae at e
  split at e
  · rename_i d ei
    cases e
    obtain ⟨o,A1,eo,rfl,v,rfl,rp⟩:=fr.var ei
    exact ⟨v,eo,q v H ⟨F,A,fr.push ⟨rfl,v,rfl,rp⟩⟩⟩
  · rename_i ds ei
    cases e
    obtain ⟨o,A1,eo,l,vs,rfl,_⟩:=fr.var ei
    exact ⟨_,eo,q _ H ⟨F,A,fr.push ⟨rfl,_,rfl,eo⟩⟩⟩
  · rename_i ds ei
    cases e
    obtain ⟨o,A1,eo,l,vs,A2,rfl,_⟩:=fr.var ei
    exact ⟨_,eo,q _ H ⟨F,A,fr.push ⟨rfl,_,rfl,eo⟩⟩⟩
  · rename_i ds ei
    cases e
    obtain ⟨o,A1,eo,l,vs,rfl,_⟩:=fr.var ei
    exact ⟨_,eo,q _ H ⟨F,A,fr.push ⟨rfl,_,rfl,eo⟩⟩⟩
  · cases e
theorem wu {e:Expr} {v:V} (d:PyData) (h:PE X e (tC v)) (hd:vv d=some v:=by rfl):EX X e false (pC d):=by
  refine bq h fun σ H Q h=>?_
  obtain ⟨B,E,xs,Xs,r,E',⟨F,A,fr⟩,_,e,q⟩:=h
  cases e
  exact q v H ⟨F,A,fr.push ⟨rfl,v,rfl,jL hd⟩⟩
theorem ap {i j pos}:EX X (.Constant (.int i) j pos) false (pC (.int i)):=wu _ iD
theorem cU {b j pos}:EX X (.Constant (.bool b) j pos) false (pC (.bool b)):=wu _ xI
theorem bE {x j pos}:EX X (.Constant (.str x) j pos) false (pC (.str x)):=wu _ nO
end
abbrev P2:=List Sl→Sl→Sl→Option (Sl×List Sl)
def gf (K:PySem.W.Frag) (r:R2) (p:P2):Prop:=∀{B F:Hp} {A:List Addr} {σ:Sg} {H:Hp} {E:List Sl} {xs:List V} {Xs:List Sl} {v1 v2:V} {s1 s2 res:Sl} {E':List Sl} {Q:VK},
  FrF K B F A σ H E (v2::v1::xs) (s2::s1::Xs)→p E s1 s2=some (res,E')→(∀v H',Frm K B σ H' E' (v::xs) (res::Xs)→Q v H')→r v1 v2 H Q
def ah (p:P2) (m2:Bool) (f g:bY):bY:=fun E=>(f E).bind fun a=>if m2&&a.1.isBr then none else (g a.2).bind fun b=>p b.2 a.1 b.1
theorem lK {K:PySem.W.Frag} {r:R2} {p:P2} (hp:gf K r p) {m1 m2:Bool} {f g:bY} {σ:Sg} {H:Hp} {Q:VK} (h:rd K (m1||m2) (ah p m2 f g) σ H Q):vk r (rd K m1 f) (rd K m2 g) σ H Q:=by
  obtain ⟨B,E,xs,Xs,res,E',fr,c,e,q⟩:=h
  obtain ⟨⟨s1,E1⟩,e1,e⟩:=Option.bind_eq_some_iff.mp e
  by_cases hb:(m2&&s1.isBr)=true
  · rw [if_pos hb] at e;cases e
  rw [if_neg hb] at e
  obtain ⟨⟨s2,E2⟩,e2,e⟩:=Option.bind_eq_some_iff.mp e
  refine ⟨B,E,xs,Xs,s1,E1,fr,fun z=>c (by simp [z]),e1,fun v1 H1 fr1=>?_⟩
  refine ⟨B,E1,v1::xs,s1::Xs,s2,E2,fr1,fun z=>?_,e2,fun v2 H2 fr2=>?_⟩
  · refine Calm.cons (c (by simp [z])) ?_
    cases hs:s1.isBr with
    | false=>rfl
    | true=>exact absurd (by simp [z,hs]) hb
  · obtain ⟨F,A,fr2⟩:=fr2
    exact hp fr2 e q
def dD (op:PyData→PyData→Option PyData):P2:=fun E s1 s2=>(look E s1).bind fun d1=>(look E s2).bind fun d2=>(op d1 d2).map fun d=>(.sh d,E)
theorem FrF.res2 {K:PySem.W.Frag} {B F:Hp} {A:List Addr} {σ:Sg} {H:Hp} {E:List Sl} {xs:List V} {Xs:List Sl} {v1 v2 v:V} {s1 s2 s:Sl} (h:FrF K B F A σ H E (v2::v1::xs) (s2::s1::Xs)) (q:SlOk K F H σ (some v) s []):Frm K B σ H E (v::xs) (s::Xs):=by
  obtain ⟨A1,h⟩:=h.pop
  obtain ⟨A2,h⟩:=h.pop
  exact ⟨F,A2,h.push q⟩
theorem iJ {K:PySem.W.Frag} {r:R2} {op:PyData→PyData→Option PyData} (h:∀(d1 d2 d:PyData) (v1 v2:V) (H:Hp) (Q:VK),op d1 d2=some d→Rp K H v1 d1→Rp K H v2 d2→∃v,vv d=some v∧(Q v H→r v1 v2 H Q)):gf K r (dD op):=by
  intro B F A σ H E xs Xs v1 v2 s1 s2 res E' Q fr e q
  obtain ⟨d1,e1,e⟩:=Option.bind_eq_some_iff.mp e
  obtain ⟨d2,e2,e⟩:=Option.bind_eq_some_iff.mp e
  obtain ⟨d,e3,e⟩:=Option.map_eq_some_iff.mp e
  cases e
  obtain ⟨v,hv,k⟩:=h d1 d2 d v1 v2 H Q e3 (fr.look1 e1).1 (fr.look0 e2).1
  exact k (q v H (fr.res2 ⟨rfl,v,rfl,jL hv⟩))
section
variable {X:Cx} {a b:Expr} {m1 m2:Bool} {f g:bY} {pos:Pos}
theorem jM {op:Operator} {r:R2} {p:P2} (ho:OpR X (binaryOp op) r) (hp:gf X.K r p) (ha:EX X a m1 f) (hb:EX X b m2 g):EX X (.BinOp a op b pos) (m1||m2) (ah p m2 f g):=bq (kG ho ha hb) fun _ _ _ h=>lK hp h
theorem nZ {op:CmpOp} {r:R2} {p:P2} (ho:OpR X (compareOp op) r) (hp:gf X.K r p) (ha:EX X a m1 f) (hb:EX X b m2 g) (hm:behindInMarks op b=false):EX X (.Compare a [op] [b] pos) (m1||m2) (ah p m2 f g):=bq (t9 ho ha hb hm) fun _ _ _ h=>lK hp h
def dH (f:bY):kO:=fun E=>(f E).bind fun a=>match a.1 with
  | .sh (.bool b)=>some (b,a.2)
  | _=>none
theorem rC {K:PySem.W.Frag} {m:Bool} {f:bY} {σ:Sg} {H:Hp} {Q:Bool→Hp→Prop} (h:rt K m (dH f) σ H Q):rd K m f σ H (fun x H'=>∃k,x= .bl k∧Q k H'):=by
  obtain ⟨B,E,xs,Xs,b,E',fr,c,e,q⟩:=h
  obtain ⟨⟨s,E1⟩,e1,e⟩:=Option.bind_eq_some_iff.mp e
  refine ⟨B,E,xs,Xs,s,E1,fr,c,e1,fun v H' ⟨F,A,fr'⟩=>?_⟩
  simp only at e
  split at e
  · cases e
    obtain ⟨r,_⟩:=fr'.look0 (d:= .bool b) rfl
    cases r
    obtain ⟨A',fr2⟩:=fr'.pop
    exact ⟨b,rfl,q H' ⟨F,A',fr2⟩⟩
  · cases e
theorem n0 {op:CmpOp} {r:R2} {p:P2} (ho:OpR X (compareOp op) r) (hp:gf X.K r p) (ha:EX X a m1 f) (hb:EX X b m2 g) (hm:behindInMarks op b=false):TX X (.Compare a [op] [b] pos) (m1||m2) (dH (ah p m2 f g)):=by
  refine lI (t_ ho ha hb hm) fun σ H Q h=>?_
  exact lK hp (rC h)
end
def wv:Int:=2 ^ 20000
def bz (i j:Int):Bool:=decide (-(2 ^ 64) < i∧i < 2 ^ 64)||decide (-(2 ^ 64) < j∧j < 2 ^ 64)||decide (-wv < i∧i < wv∧ -wv < j∧j < wv)
def gr (j:Int):Bool:=decide (0 < j∧j < 2 ^ 400)
def j9 (C:Int→Int→Bool) (g:Int→Int→PyData):PyData→PyData→Option PyData
  | .int i, .int j=>if C i j then some (g i j) else none
  | _,_=>none
abbrev xD (C:Int→Int→Bool) (g:Int→Int→V):R2:=rI (fun i j=>C i j=true) g
theorem lL {K:PySem.W.Frag} {C:Int→Int→Bool} {g:Int→Int→PyData} {g':Int→Int→V} (hg:∀i j,vv (g i j)=some (g' i j)):gf K (xD C g') (dD (j9 C g)):=by
  refine iJ fun d1 d2 d v1 v2 H Q e r1 r2=>?_
  unfold j9 at e
  split at e
  · split at e
    · cases e
      cases r1
      cases r2
      rename_i hC
      exact ⟨_,hg _ _,fun q=>⟨_,_,rfl,rfl,hC,q⟩⟩
    · cases e
  · cases e
section
variable {X:Cx}
theorem i5 {i:Int} (h1: -wv < i) (h2:i < wv):Builtin.Int.intBits i≤2 ^ 20:=by
  unfold wv at h1 h2
  have h:i.natAbs < 2 ^ 20000:=by
    have e:((2 ^ 20000:Nat):Int)=2 ^ 20000:=Int.natCast_pow 2 20000
    generalize (2 ^ 20000:Int)=z at h1 h2 e
    generalize (2 ^ 20000:Nat)=y at e ⊢
    omega
  unfold Builtin.Int.intBits
  split
  · exact Nat.zero_le _
  · rename_i hz
    have hz':i≠0:=by simpa using hz
    have:i.natAbs.log2 < 20000:=(Nat.log2_lt (by omega)).mpr h
    omega
theorem rD {i j:Int} (h:bz i j=true):PySem.IntMulOk i j:=by
  unfold bz at h
  simp only [Bool.or_eq_true,decide_eq_true_eq] at h
  rcases h with (h | h) | h
  · exact CMul.ok (.inl h)
  · exact CMul.ok (.inr h)
  · exact PySem.IntMulOk.of_bits (i5 h.1 h.2.1) (i5 h.2.2.1 h.2.2.2)
end
end PL
namespace PL
open PySem L2 Nh PyProof.Rows
abbrev iC:=L2.St
section
variable {X:Cx}
theorem OpR.or {f:Value→Value→Sem Value} {r r':R2} (h:OpR X f r) (h':OpR X f r'):OpR X f (fun x y H Q=>r x y H Q∨r' x y H Q):=by
  intro pins s σ H x y v u Q I rx ry q
  rcases q with q | q
  · exact h pins s σ H x y v u Q I rx ry q
  · exact h' pins s σ H x y v u Q I rx ry q
theorem OpR.imp {f:Value→Value→Sem Value} {r r':R2} (h:OpR X f r) (k:∀x y H Q,r' x y H Q→r x y H Q):OpR X f r':=fun pins s σ H x y v u Q I rx ry q=>h pins s σ H x y v u Q I rx ry (k _ _ _ _ q)
def vw (K:PySem.W.Frag):R2:=fun x y H Q=>∃l b xs zs,x= .ref l∧y= .ref b∧SqL K H l xs∧SqL K H b zs∧xs.length+zs.length≤sizeLine∧∀p,H p=none→Q (.ref p) (upd H p (.lst (xs++zs)))
theorem uq:OpR X (binaryOp .Add) (vw X.K):=by
  intro pins s σ H x y v u Q I rx ry h
  obtain ⟨l,b,xs,zs,rfl,rfl,hH,hB,hz,q⟩:=h
  cases rx
  cases ry
  obtain ⟨its,r,p1,z1⟩:=I.list hH
  obtain ⟨its2,r2,p2,z2⟩:=I.list hB
  obtain ⟨⟨cls,dd,data,sl⟩,ho,hc,n,hd⟩:=p1.isList
  obtain ⟨⟨cls2,dd2,data2,sl2⟩,ho2,hc2,n2,mL⟩:=p2.isList
  simp only at hc hd hc2 mL
  subst hc hd hc2 mL
  have l1:=r.length
  have l2:=r2.length
  refine concat_meets ⟨_,ho,rfl⟩ ⟨_,ho2,rfl⟩ noFill_list_add seq_list_add PySem.F.slot_list_add PySem.F.entry_list_add (PySem.F.args_list_add_2 _ _) (list_addW l b its.toArray its2.toArray n n2 dd dd2 sl sl2 (by simp only [List.size_toArray];omega)) ⟨ho,ho2,?_⟩
  have ea:its.toArray++its2.toArray=(its++its2).toArray:=by simp
  rw [ea]
  exact ⟨.ref _,_,I.lnew (t':=s.toks) (r.append r2) (by rw [List.length_append];omega),rfl,q _ I.fresh⟩
def vx (K:PySem.W.Frag):R2:=fun x y H Q=>∃l k xs,x= .ref l∧y= .int k∧SqL K H l xs∧ -(2 ^ 63)≤k∧k < 2 ^ 63∧xs.length*k.toNat≤sizeLine∧
  ∀p,H p=none→Q (.ref p) (upd H p (.lst (List.replicate k.toNat xs).flatten))
theorem ur:OpR X (binaryOp .Mult) (vx X.K):=by
  intro pins s σ H x y v u Q I rx ry h
  obtain ⟨l,k,xs,rfl,rfl,hH,h1,h2,hz,q⟩:=h
  cases rx
  obtain ⟨t,rfl⟩:=ry
  obtain ⟨its,r,p1,z1⟩:=I.list hH
  obtain ⟨⟨cls,d,data,sl⟩,ho,hcl,n,hd⟩:=p1.isList
  simp only at hcl hd
  subst hcl hd
  have l1:=r.length
  have hsz:its.toArray.size*k.toNat≤2 ^ 24:=by rw [List.size_toArray,←l1];exact hz
  refine wpAny_binaryOp_repeat_ref (T:="list") (U:="int") (by decide) ⟨_,ho,rfl⟩ (fun s'=>typeIs_int s' k t) noFill_list_mul F.fills_int_mul F.slot_int_rmul repeat_list F.slot_int_index.lookup
    (call_meets F.slot_int_rmul (typeIs_int s k t) F.entry_int_rmul (F.args_int_rmul_2 _ _) (lm_int_rmul_list_any k t l its.toArray n d sl)
      ⟨ho,rfl,⟨_,ho,rfl⟩,call_meets F.slot_list_mul ⟨_,ho,rfl⟩ F.entry_list_mul (F.args_list_mul_2 _ _)
        (lm_list_mul_any l its.toArray n d sl k t (by simp [Builtin.List.listFitsIndex];omega) (by omega) (by simp [Builtin.List.listTooLong,sizeLine];omega))
        ⟨ho,?_⟩⟩)
  rw [listMul_foldl_if]
  exact ⟨.ref _,_,I.lnew (t':=s.toks) (r.rep k.toNat) (by rw [uk,Nat.mul_comm];exact hz),rfl,q _ I.fresh⟩
end
def aC:P2:=fun E s1 s2=>(look E s1).bind fun d1=>(look E s2).bind fun d2=>match d1,d2 with
  | .int i, .int j=>some (.sh (.int (i+j)),E)
  | .str a, .str b=>if a.length+b.length≤1000000 then some (.sh (.str (a++b)),E) else none
  | .list a, .list b=>if decide (a.length+b.length≤1000000)&&(!hot E s1||aZ a)&&(!hot E s2||aZ b) then some (.ow (a++b),E) else none
  | _,_=>none
theorem o0 {n:Nat} (h:n≤1000000):n < sizeLine:=Nat.lt_of_le_of_lt h (by rw [sizeLine_eq];decide)
theorem fP {n:Nat} (h:n≤1000000):n≤sizeLine:=Nat.le_of_lt (o0 h)
section
variable {K:PySem.W.Frag} {B F:Hp} {A:List Addr} {σ:iC} {H:Hp} {E:List Sl} {xs:List V} {Xs:List Sl} {v:V} {s:Sl} {ds:List PyData}
theorem FrF.items {k:Nat} (h:FrF K B F A σ H E xs Xs) (e:Xs[k]? =some s) (q:PL.look E s=some (.list ds)) (c:(!hot E s||aZ ds)=true):∃a vs,xs[k]? =some (.ref a)∧SqL K H a vs∧RpA K F vs ds:=by
  obtain ⟨v,ev,r,f⟩:=h.look e q
  cases hh:hot E s with
  | false=>
    obtain ⟨a,vs,rfl,h1,h2⟩:=f hh
    exact ⟨a,vs,ev,h1,h2⟩
  | true=>
    rw [hh] at c
    cases r with
    | lst h1 h2=>exact ⟨_,_,ev,h1,h.coldA h2 (by simpa using c)⟩
theorem FrF.res2l {v1 v2:V} {s1 s2:Sl} {vs:List V} (h:FrF K B F A σ H E (v2::v1::xs) (s2::s1::Xs)) (r:RpA K F vs ds) {p:Addr} (hp:H p=none):Frm K B σ (upd H p (.lst vs)) E (.ref p::xs) (.ow ds::Xs):=by
  obtain ⟨A1,h⟩:=h.pop
  obtain ⟨A2,h⟩:=h.pop
  exact ⟨F,_,h.newl r hp⟩
end
abbrev vy (K:PySem.W.Frag):R2:=fun x y H Q=>(∃i j,x= .int i∧y= .int j∧Q (.int (i+j)) H)∨(∃i j,x= .str i∧y= .str j∧i.length+j.length≤sizeLine∧Q (.str (i++j)) H)∨vw K x y H Q
theorem ut {X:Cx}:OpR X (binaryOp .Add) (vy X.K):=OpR.or qL (OpR.or nS uq)
theorem uv {K:PySem.W.Frag}:gf K (vy K) aC:=by
  intro B F A σ H E xs Xs v1 v2 s1 s2 res E' Q fr e q
  obtain ⟨d1,e1,e⟩:=Option.bind_eq_some_iff.mp e
  obtain ⟨d2,e2,e⟩:=Option.bind_eq_some_iff.mp e
  have r1:=(fr.look1 e1).1
  have r2:=(fr.look0 e2).1
  split at e
  · cases e;cases r1;cases r2
    exact .inl ⟨_,_,rfl,rfl,q _ _ (fr.res2 ⟨rfl,_,rfl, .int _⟩)⟩
  · split at e
    · rename_i hl
      cases e;cases r1;cases r2
      exact .inr (.inl ⟨_,_,rfl,rfl,fP hl,q _ _ (fr.res2 ⟨rfl,_,rfl, .str _⟩)⟩)
    · cases e
  · split at e
    · rename_i hc
      cases e
      simp only [Bool.and_eq_true,decide_eq_true_eq] at hc
      obtain ⟨a1,u1,x1,q1,i1⟩:=fr.items (k:=1) rfl e1 hc.1.2
      obtain ⟨a2,u2,x2,q2,i2⟩:=fr.items (k:=0) rfl e2 hc.2
      cases x1;cases x2
      have l1:=i1.len
      have l2:=i2.len
      exact .inr (.inr ⟨_,_,_,_,rfl,rfl,q1,q2,fP (by omega),fun p hp=>q _ _ (fr.res2l (i1.append i2) hp)⟩)
    · cases e
  · cases e
def dE:P2:=dD (j9 (fun _ _=>true) fun i j=> .int (i - j))
def e8:P2:=dD (j9 (fun _ j=>gr j) fun i j=> .int (i / j))
def fj:P2:=dD (j9 (fun _ j=>decide (0 < j)) fun i j=> .int (i % j))
def hW:P2:=dD (j9 (fun i j=>decide (0≤j∧j≤1000000∧ -(2 ^ 64) < i∧i < 2 ^ 64)) fun i j=> .int (i ^ j.toNat))
section
variable {X:Cx}
theorem uw:OpR X (binaryOp .Sub) (xD (fun _ _=>true) fun i j=> .int (i - j)):=OpR.imp v_ fun x y H Q ⟨i,j,a,b,_,q⟩=>⟨i,j,a,b,q⟩
theorem mR:OpR X (binaryOp .FloorDiv) (xD (fun _ j=>gr j) fun i j=> .int (i / j)):=yP fun i j _ _ _ _ _ hc q=>by
  obtain ⟨h1,h2⟩:=of_decide_eq_true hc
  have h3:j.natAbs.log2 < 9000:=by
    have:j.natAbs < 2 ^ 400:=by omega
    have:=(Nat.log2_lt (n:=j.natAbs) (k:=400) (by omega)).mpr this
    omega
  exact floordiv_int (by omega) (by rw [Int.fdiv_eq_ediv_of_nonneg i (by omega)];exact q) (.inl (PyProof.noPylong_of_log2 h3))
theorem ux:OpR X (binaryOp .Mod) (xD (fun _ j=>decide (0 < j)) fun i j=> .int (i % j)):=OpR.imp qM fun x y H Q ⟨i,j,a,b,c,q⟩=>⟨i,j,a,b,of_decide_eq_true c,q⟩
theorem uy {i j:Int} (c:0≤j∧j≤1000000∧ -(2 ^ 64) < i∧i < 2 ^ 64):xT i j:=⟨c.1,c.2.1,by omega⟩
theorem uz:OpR X (binaryOp .Pow) (xD (fun i j=>decide (0≤j∧j≤1000000∧ -(2 ^ 64) < i∧i < 2 ^ 64)) fun i j=> .int (i ^ j.toNat)):=OpR.imp wa fun x y H Q ⟨i,j,a,b,c,q⟩=>⟨i,j,a,b,uy (of_decide_eq_true c),q⟩
end
def dF:P2:=fun E s1 s2=>(look E s1).bind fun d1=>(look E s2).bind fun d2=>match d1,d2 with
  | .int i, .int j=>if bz i j then some (.sh (.int (i*j)),E) else none
  | .list a, .int k=>if decide (a.length*k.toNat≤1000000∧ -1000000≤k∧k≤1000000)&&(!hot E s1||aZ a) then some (.ow (List.replicate k.toNat a).flatten,E) else none
  | _,_=>none
abbrev o6 (K:PySem.W.Frag):R2:=fun x y H Q=>xD bz (fun i j=> .int (i*j)) x y H Q∨vx K x y H Q
theorem lN {X:Cx}:OpR X (binaryOp .Mult) (o6 X.K):=OpR.or (yP fun _ _ _ _ _ _ _ hc q=>mul_int q (rD hc)) ur
theorem uA {K:PySem.W.Frag}:gf K (o6 K) dF:=by
  intro B F A σ H E xs Xs v1 v2 s1 s2 res E' Q fr e q
  obtain ⟨d1,e1,e⟩:=Option.bind_eq_some_iff.mp e
  obtain ⟨d2,e2,e⟩:=Option.bind_eq_some_iff.mp e
  have r1:=(fr.look1 e1).1
  have r2:=(fr.look0 e2).1
  split at e
  · split at e
    · rename_i hm
      cases e;cases r1;cases r2
      exact .inl ⟨_,_,rfl,rfl,hm,q _ _ (fr.res2 ⟨rfl,_,rfl, .int _⟩)⟩
    · cases e
  · split at e
    · rename_i hc
      cases e
      simp only [Bool.and_eq_true,decide_eq_true_eq] at hc
      obtain ⟨a1,u1,x1,q1,i1⟩:=fr.items (k:=1) rfl e1 hc.2
      cases x1;cases r2
      have l1:=i1.len
      exact .inr ⟨_,_,_,rfl,rfl,q1,by omega,by omega,fP (by rw [l1];exact hc.1.1),fun p hp=>q _ _ (fr.res2l (i1.rep _) hp)⟩
    · cases e
  · cases e
section
variable {X:Cx} {a b:Expr} {m1 m2:Bool} {f g:bY} {pos:Pos}
theorem aA (ha:EX X a m1 f) (hb:EX X b m2 g):EX X (.BinOp a .Add b pos) (m1||m2) (ah aC m2 f g):=jM ut uv ha hb
theorem fQ (ha:EX X a m1 f) (hb:EX X b m2 g):EX X (.BinOp a .Sub b pos) (m1||m2) (ah dE m2 f g):=jM uw (lL fun _ _=>rfl) ha hb
theorem cE (ha:EX X a m1 f) (hb:EX X b m2 g):EX X (.BinOp a .Mult b pos) (m1||m2) (ah dF m2 f g):=jM lN uA ha hb
theorem fk (ha:EX X a m1 f) (hb:EX X b m2 g):EX X (.BinOp a .FloorDiv b pos) (m1||m2) (ah e8 m2 f g):=jM mR (lL fun _ _=>rfl) ha hb
theorem fR (ha:EX X a m1 f) (hb:EX X b m2 g):EX X (.BinOp a .Mod b pos) (m1||m2) (ah fj m2 f g):=jM ux (lL fun _ _=>rfl) ha hb
theorem jN (ha:EX X a m1 f) (hb:EX X b m2 g):EX X (.BinOp a .Pow b pos) (m1||m2) (ah hW m2 f g):=jM uz (lL fun _ _=>rfl) ha hb
end
def zo (K:PySem.W.Frag) (r:V→Hp→VK→Prop) (op:PyData→Option PyData):Prop:=∀(d1 d:PyData) (v1:V) (H:Hp) (Q:VK),op d1=some d→Rp K H v1 d1→∃v,vv d=some v∧(Q v H→r v1 H Q)
def gh (op:PyData→Option PyData) (f:bY):bY:=fun E=>(f E).bind fun a=>(look a.2 a.1).bind fun d1=>(op d1).map fun d=>(.sh d,a.2)
theorem yg {K:PySem.W.Frag} {r:V→Hp→VK→Prop} {op:PyData→Option PyData} (hp:zo K r op) {m:Bool} {f:bY} {σ:iC} {H:Hp} {Q:VK} (h:rd K m (gh op f) σ H Q):rd K m f σ H (fun x H1=>r x H1 Q):=by
  obtain ⟨B,E,xs,Xs,res,E',fr,c,e,q⟩:=h
  obtain ⟨⟨s1,E1⟩,e1,e⟩:=Option.bind_eq_some_iff.mp e
  obtain ⟨d1,e2,e⟩:=Option.bind_eq_some_iff.mp e
  obtain ⟨d,e3,e⟩:=Option.map_eq_some_iff.mp e
  cases e
  refine ⟨B,E,xs,Xs,s1,E1,fr,c,e1,fun v1 H1 ⟨F,A,fr1⟩=>?_⟩
  obtain ⟨v,hv,k⟩:=hp d1 d v1 H1 Q e3 (fr1.look0 e2).1
  obtain ⟨A',fr2⟩:=fr1.pop
  exact k (q v H1 ⟨F,A',fr2.push ⟨rfl,v,rfl,jL hv⟩⟩)
def gs:PyData→Option PyData
  | .int i=>some (.int (-i))
  | _=>none
section
variable {X:Cx} {a b c:Expr} {m1 m2 m3:Bool} {f g h:bY} {pos:Pos}
theorem jO (ha:EX X a m1 f):EX X (.UnaryOp .USub a pos) m1 (gh gs f):=bq (xR wb ha) fun σ H Q h=>yg (r:=rU fun i=> .int (-i)) (fun d1 d v1 H Q e r=>by
  cases d1 <;> simp [gs] at e
  cases e;cases r
  exact ⟨_,rfl,fun q=>⟨_,rfl,q⟩⟩) h
end
def mS (d1 d2:PyData):Option Bool:=match d1,d2 with
  | .int i, .int j=>some (decide (i=j))
  | .str a, .str b=>some (decide (a=b))
  | .bool a, .bool b=>some (decide (a=b))
  | .none, .none=>some true
  | .none, .str _=>some false
  | .str _, .none=>some false
  | d1,d2=>if SeqAt.shaped d1&&SeqAt.shaped d2 then some (PyData.eqv d1 d2) else none
def o7:P2:=dD fun d1 d2=>(mS d1 d2).map fun b=> .bool b
def fS:P2:=dD fun d1 d2=>(mS d1 d2).map fun b=> .bool (!b)
abbrev zp (K:PySem.W.Frag):R2:=fun x y H Q=>zP x y H Q∨yc K x y H Q
abbrev zq (K:PySem.W.Frag):R2:=fun x y H Q=>zQ x y H Q∨yd K x y H Q
theorem rE {K:PySem.W.Frag} {H:Hp} {v1 v2:V} {d1 d2:PyData} {b:Bool} (e:mS d1 d2=some b) (r1:Rp K H v1 d1) (r2:Rp K H v2 d2):
    (wc v1 v2=true∧decide (v1=v2)=b)∨(DOf K H v1 d1∧DOf K H v2 d2∧SeqAt.shaped d1=true∧SeqAt.shaped d2=true∧PyData.eqv d1 d2=b):=by
  unfold mS at e
  split at e
  · cases e;cases r1;cases r2;exact .inl ⟨rfl,by simp⟩
  · cases e;cases r1;cases r2;exact .inl ⟨rfl,by simp⟩
  · cases e;cases r1;cases r2;exact .inl ⟨rfl,by simp⟩
  · cases e;cases r1;cases r2;exact .inl ⟨rfl,rfl⟩
  · cases e;cases r1;cases r2;exact .inl ⟨rfl,rfl⟩
  · cases e;cases r1;cases r2;exact .inl ⟨rfl,rfl⟩
  · split at e
    · rename_i hs
      cases e
      simp only [Bool.and_eq_true] at hs
      exact .inr ⟨r1.dof hs.1,r2.dof hs.2,hs.1,hs.2,rfl⟩
    · cases e
theorem rG {K:PySem.W.Frag}:gf K (zp K) o7:=iJ fun d1 d2 d v1 v2 H Q e r1 r2=>by
  obtain ⟨b,e',rfl⟩:=Option.map_eq_some_iff.mp e
  refine ⟨_,rfl,fun q=>?_⟩
  rcases rE e' r1 r2 with ⟨a,rfl⟩ | ⟨a1,a2,a3,a4,rfl⟩
  · exact .inl ⟨a,q⟩
  · exact .inr ⟨_,_,a1,a2,a3,a4,q⟩
theorem rH {K:PySem.W.Frag}:gf K (zq K) fS:=iJ fun d1 d2 d v1 v2 H Q e r1 r2=>by
  obtain ⟨b,e',rfl⟩:=Option.map_eq_some_iff.mp e
  refine ⟨_,rfl,fun q=>?_⟩
  rcases rE e' r1 r2 with ⟨a,rfl⟩ | ⟨a1,a2,a3,a4,rfl⟩
  · exact .inl ⟨a,q⟩
  · exact .inr ⟨_,_,a1,a2,a3,a4,q⟩
def pT (K:PySem.W.Frag) (r:R2) (op:PyData→PyData→Option PyData):Prop:=∀(d1 d2 d:PyData) (v1 v2:V) (H:Hp) (Q:VK),op d1 d2=some d→Rp K H v1 d1→Rp K H v2 d2→∃v,vv d=some v∧(Q v H→r v1 v2 H Q)
def gY (op op':PyData→PyData→Option PyData) (m2 m3:Bool) (f g h:bY):bY:=fun E=>(f E).bind fun a=>if (m2||m3)&&a.1.isBr then none else (g a.2).bind fun b=>if m3&&b.1.isBr then none else
  (look b.2 a.1).bind fun d1=>(look b.2 b.1).bind fun d2=>match op d1 d2 with
    | some (.bool true)=>(h b.2).bind fun c=>(look c.2 b.1).bind fun d2=>(look c.2 c.1).bind fun d3=>(op' d2 d3).map fun d=>(.sh d,c.2)
    | some (.bool false)=>some (.sh (.bool false),b.2)
    | _=>none
section
variable {X:Cx} {a b c:Expr} {m1 m2 m3:Bool} {f g h:bY} {pos:Pos}
theorem o8 (hu:X.A.units+64 < cLine) (ha:EX X a m1 f) (hb:EX X b m2 g):EX X (.Compare a [.Eq] [b] pos) (m1||m2) (ah o7 m2 f g):=nZ (OpR.or vm (rj hu)) rG ha hb (jD _)
theorem rJ (hu:X.A.units+64 < cLine) (ha:EX X a m1 f) (hb:EX X b m2 g):EX X (.Compare a [.NotEq] [b] pos) (m1||m2) (ah fS m2 f g):=nZ (OpR.or vn (rk hu)) rH ha hb (jD _)
theorem vz (hu:X.A.units+64 < cLine) (ha:EX X a m1 f) (hb:EX X b m2 g):TX X (.Compare a [.Eq] [b] pos) (m1||m2) (dH (ah o7 m2 f g)):=n0 (OpR.or vm (rj hu)) rG ha hb (jD _)
theorem gi (hu:X.A.units+64 < cLine) (ha:EX X a m1 f) (hb:EX X b m2 g):TX X (.Compare a [.NotEq] [b] pos) (m1||m2) (dH (ah fS m2 f g)):=n0 (OpR.or vn (rk hu)) rH ha hb (jD _)
theorem rK {K:PySem.W.Frag} {r r':R2} {op op':PyData→PyData→Option PyData} (k:pT K r op) (k':pT K r' op') {σ:iC} {H:Hp} {Q:VK} (z:rd K (m1||(m2||m3)) (gY op op' m2 m3 f g h) σ H Q):qO r r' (rd K m1 f) (rd K m2 g) (rd K m3 h) σ H Q:=by
  obtain ⟨B,E,xs,Xs,res,E',fr,cl,e,q⟩:=z
  obtain ⟨⟨s1,E1⟩,e1,e⟩:=Option.bind_eq_some_iff.mp e
  by_cases hb:((m2||m3)&&s1.isBr)=true
  · rw [if_pos hb] at e;cases e
  rw [if_neg hb] at e
  obtain ⟨⟨s2,E2⟩,e2,e⟩:=Option.bind_eq_some_iff.mp e
  by_cases hb2:(m3&&s2.isBr)=true
  · rw [if_pos hb2] at e;cases e
  rw [if_neg hb2] at e
  obtain ⟨d1,l1,e⟩:=Option.bind_eq_some_iff.mp e
  obtain ⟨d2,l2,e⟩:=Option.bind_eq_some_iff.mp e
  have n1:(m2||m3)=true→s1.isBr=false:=fun z=>by
    cases hs:s1.isBr with
    | false=>rfl
    | true=>exact absurd (by rw [z,hs];rfl) hb
  have n2:m3=true→s2.isBr=false:=fun z=>by
    cases hs:s2.isBr with
    | false=>rfl
    | true=>exact absurd (by rw [z,hs];rfl) hb2
  refine ⟨B,E,xs,Xs,s1,E1,fr,fun z=>cl (by simp [z]),e1,fun v1 H1 fr1=>?_⟩
  refine ⟨B,E1,v1::xs,s1::Xs,s2,E2,fr1,fun z=>Calm.cons (cl (by simp [z])) (n1 (by simp [z])),e2,fun v2 H2 ⟨F,A,fr2⟩=>?_⟩
  cases ho:op d1 d2 with
  | none=>rw [ho] at e;cases e
  | some d=>
    rw [ho] at e
    obtain ⟨v,hv,kk⟩:=k d1 d2 d v1 v2 H2 (fun z H3=>∃k,z= .bl k∧(if k=true then rd K m3 h σ H3 fun w' H4=>r' v2 w' H4 Q else Q (.bl false) H3)) ho (fr2.look1 l1).1 (fr2.look0 l2).1
    cases d with
    | bool t=>
      cases hv
      refine kk ⟨t,rfl,?_⟩
      cases t with
      | true=>
        rw [if_pos rfl]
        obtain ⟨⟨s3,E3⟩,e3,e⟩:=Option.bind_eq_some_iff.mp e
        obtain ⟨d2',l2',e⟩:=Option.bind_eq_some_iff.mp e
        obtain ⟨d3,l3,e⟩:=Option.bind_eq_some_iff.mp e
        obtain ⟨d,ho',e⟩:=Option.map_eq_some_iff.mp e
        cases e
        refine ⟨B,E2,v2::v1::xs,s2::s1::Xs,s3,E3,⟨F,A,fr2⟩,fun z=>Calm.cons (Calm.cons (cl (by simp [z])) (n1 (by simp [z]))) (n2 z),e3,fun v3 H3 ⟨F3,A3,fr3⟩=>?_⟩
        obtain ⟨v,hv,kk⟩:=k' d2' d3 d v2 v3 H3 Q ho' (fr3.look1 l2').1 (fr3.look0 l3).1
        obtain ⟨A4,fr4⟩:=fr3.pop
        exact kk (q v H3 (fr4.res2 ⟨rfl,v,rfl,jL hv⟩))
      | false=>
        rw [if_neg (by decide)]
        cases e
        exact q _ _ (fr2.res2 ⟨rfl,_,rfl, .bl _⟩)
    | none=>cases e
    | int i=>cases e
    | str x=>cases e
    | list xs=>cases e
    | tuple xs=>cases e
    | dict kvs=>cases e
end
end PL
namespace PL
open PySem L2 Nh
def gu (f g:bY):bY:=fun E=>(f E).bind fun a=>match a.1 with
  | .sh (.bool true)=>g a.2
  | .sh (.bool false)=>some (.sh (.bool false),a.2)
  | _=>none
def eg (f g:kO):kO:=fun E=>(f E).bind fun a=>if a.1 then some (true,a.2) else g a.2
def aW (f:kO):kO:=fun E=>(f E).map fun a=>(!a.1,a.2)
def tP (c:kO) (f g:bY):bY:=fun E=>(c E).bind fun a=>if a.1 then f a.2 else g a.2
def gn:PyData→Option Bool
  | .none=>some false
  | .bool b=>some b
  | .int i=>some (i != 0)
  | .str x=>if x.length≤1000000 then some ((x.length:Int) != 0) else none
  | .list xs=>some (!xs.isEmpty)
  | .tuple xs=>some (!xs.isEmpty)
  | .dict _=>none
def b8 (f:bY):kO:=fun E=>(f E).bind fun a=>match a.1 with
  | .al i=>match a.2[i]? with
    | some (.od kvs)=>some (!kvs.isEmpty,a.2)
    | some s=>(s.val.bind gn).map fun b=>(b,a.2)
    | none=>none
  | s=>(s.val.bind gn).map fun b=>(b,a.2)
section
variable {X:Cx} {a b c:Expr} {bD:List Expr} {m1 m2 m3:Bool} {f g h:bY} {t u:kO} {pos:Pos} {K:PySem.W.Frag}
theorem lO {op} (h:EX X a m1 f):EX X (.BoolOp op [a] pos) m1 f:=vV h
theorem lP (ha:EX X a m1 f) (hb:EX X (.BoolOp .And (b::bD) pos) m2 g):EX X (.BoolOp .And (a::b::bD) pos) (m1||m2) (gu f g):=by
  refine bq (vW ha hb) fun σ H Q z=>?_
  obtain ⟨B,E,xs,Xs,res,E',fr,cl,e,q⟩:=z
  obtain ⟨⟨s1,E1⟩,e1,e⟩:=Option.bind_eq_some_iff.mp e
  refine ⟨B,E,xs,Xs,s1,E1,fr,fun z=>cl (by simp [z]),e1,fun v1 H1 ⟨F,A,fr1⟩=>?_⟩
  simp only at e
  split at e
  · obtain ⟨r,_⟩:=fr1.look0 (d:= .bool true) rfl
    cases r
    obtain ⟨A',fr2⟩:=fr1.pop
    exact ⟨true,rfl,(if_pos rfl).mpr ⟨B,E1,xs,Xs,res,E',⟨F,A',fr2⟩,fun z=>cl (by simp [z]),e,q⟩⟩
  · cases e
    obtain ⟨r,_⟩:=fr1.look0 (d:= .bool false) rfl
    cases r
    exact ⟨false,rfl,(if_neg (by decide)).mpr (q _ _ ⟨F,A,fr1⟩)⟩
  · cases e
theorem fT (ha:TX X a m1 t):WX X (.BoolOp .Or [a] pos) m1 t:=vT ha
theorem fJ (ha:TX X a m1 t) (hb:WX X (.BoolOp .Or (b::bD) pos) m2 u):WX X (.BoolOp .Or (a::b::bD) pos) (m1||m2) (eg t u):=by
  refine wt (xJ ha hb) fun σ H Q z=>?_
  obtain ⟨B,E,xs,Xs,res,E',fr,cl,e,q⟩:=z
  obtain ⟨⟨b1,E1⟩,e1,e⟩:=Option.bind_eq_some_iff.mp e
  refine ⟨B,E,xs,Xs,b1,E1,fr,fun z=>cl (by simp [z]),e1,fun H1 fr1=>?_⟩
  cases b1 with
  | true=>cases e;exact (if_pos rfl).mpr (q _ fr1)
  | false=>exact (if_neg (by decide)).mpr ⟨B,E1,xs,Xs,res,E',fr1,fun z=>cl (by simp [z]),e,q⟩
theorem lQ (h:WX X a m1 t):TX X a m1 t:=PW.pt h
theorem cF (ha:TX X a m1 t):TX X (.UnaryOp .Not a pos) m1 (aW t):=by
  refine lI (vU ha) fun σ H Q z=>?_
  obtain ⟨B,E,xs,Xs,res,E',fr,cl,e,q⟩:=z
  obtain ⟨⟨b1,E1⟩,e1,e⟩:=Option.map_eq_some_iff.mp e
  cases e
  exact ⟨B,E,xs,Xs,b1,E1,fr,cl,e1,fun H1 fr1=>q _ fr1⟩
theorem rL (hc:TX X c m1 t) (ha:EX X a m2 f) (hb:EX X b m3 g):EX X (.IfExp c a b pos) (m1||(m2||m3)) (tP t f g):=by
  refine bq (qF hc ha hb) fun σ H Q z=>?_
  obtain ⟨B,E,xs,Xs,res,E',fr,cl,e,q⟩:=z
  obtain ⟨⟨b1,E1⟩,e1,e⟩:=Option.bind_eq_some_iff.mp e
  refine ⟨B,E,xs,Xs,b1,E1,fr,fun z=>cl (by simp [z]),e1,fun H1 fr1=>?_⟩
  cases b1 with
  | true=>exact (if_pos rfl).mpr ⟨B,E1,xs,Xs,res,E',fr1,fun z=>cl (by simp [z]),e,q⟩
  | false=>exact (if_neg (by decide)).mpr ⟨B,E1,xs,Xs,res,E',fr1,fun z=>cl (by simp [z]),e,q⟩
theorem ww {H:Hp} {v:V} {d:PyData} {b:Bool} (r:Rp K H v d) (e:gn d=some b):qQ K v H b:=by
  cases r with
  | non=>cases e;rfl
  | bl b=>cases e;rfl
  | int i=>cases e;rfl
  | str x=>
    simp only [gn] at e
    split at e
    · rename_i hl
      cases e
      exact ⟨fP hl,rfl⟩
    · cases e
  | lst h r=>cases e;exact .inl ⟨_,h,by cases r <;> rfl⟩
  | tup h r=>cases e;exact .inr (.inl ⟨_,h,by cases r <;> rfl⟩)
  | dct h r=>cases e
  | exc h r=>cases e
  | obj c h n r=>cases e
theorem cp (ha:EX X a m1 f) (he:∀whole,isTrue a X.env whole=(do let v ←whole;standAt a.pos;holding [v] (truthy v)):=by exact fun _=>rfl):TX X a m1 (b8 f):=by
  refine lI (qR ha he) fun σ H Q z=>?_
  obtain ⟨B,E,xs,Xs,res,E',fr,cl,e,q⟩:=z
  obtain ⟨⟨s,E1⟩,e1,e⟩:=Option.bind_eq_some_iff.mp e
  refine ⟨B,E,xs,Xs,s,E1,fr,cl,e1,fun v1 H1 ⟨F,A,fr1⟩=>?_⟩
  have key:∀d,look E1 s=some d→(gn d).map (fun b=>(b,E1))=some (res,E')→∃k,qQ X.K v1 H1 k∧Q k H1:=fun d l e=>by
    obtain ⟨b,e',z⟩:=Option.map_eq_some_iff.mp e
    cases z
    obtain ⟨A',fr2⟩:=fr1.pop
    exact ⟨_,ww (fr1.look0 l).1 e',q _ ⟨F,A',fr2⟩⟩
  have kv:(s.val.bind gn).map (fun b=>(b,E1))=some (res,E')→(∀i,s≠ .al i)→∃k,qQ X.K v1 H1 k∧Q k H1:=fun e na=>by
    obtain ⟨b,e',z⟩:=Option.map_eq_some_iff.mp e
    obtain ⟨d,e1,e2⟩:=Option.bind_eq_some_iff.mp e'
    refine key d ?_ (by rw [e2];exact congrArg some z)
    cases s <;> first | exact e1 | exact absurd rfl (na _)
  simp only at e
  split at e
  · rename_i i
    split at e
    · rename_i kvs ei
      cases e
      obtain ⟨v',A1,ev,rfl,w,ew,hw⟩:=fr1.ext (k:=0) rfl
      cases ev;cases ew
      obtain ⟨o,A1,eo,l,us,A2,rfl,_,hl,r⟩:=fr1.var ei
      rw [hw] at eo
      cases eo
      obtain ⟨A',fr2⟩:=fr1.pop
      exact ⟨_, .inr (.inr ⟨_,hl,by cases us <;> cases kvs <;> first | rfl | exact False.elim r⟩),q _ ⟨F,A',fr2⟩⟩
    · rename_i s' _ ei
      obtain ⟨b,e',z⟩:=Option.map_eq_some_iff.mp e
      obtain ⟨d,e1,e2⟩:=Option.bind_eq_some_iff.mp e'
      exact key d (by simp [look,ei,e1]) (by rw [e2];exact congrArg some z)
    · cases e
  · rename_i na
    exact kv e na
end
theorem rM {X:Cx} {a b c:Expr} {m1 m2 m3:Bool} {f g h:bY} {pos:Pos} {o1 o2:CmpOp} {r r':R2} {op op':PyData→PyData→Option PyData} (ho:OpR X (compareOp o1) r) (ho':OpR X (compareOp o2) r') (k:pT X.K r op) (k':pT X.K r' op') (ha:EX X a m1 f) (hb:EX X b m2 g) (hc:EX X c m3 h)
    (hm:lastMarks [o1,o2] [b,c]=false:=by with_unfolding_all rfl):TX X (.Compare a [o1,o2] [b,c] pos) (m1||(m2||m3)) (dH (gY op op' m2 m3 f g h)):=lI (qP ho ho' ha hb hc hm) fun _ _ _ z=>rK k k' (rC z)
def aq:kP:=fun E=>some ([],E)
def af (m2:Bool) (f:bY) (g:kP):kP:=fun E=>(f E).bind fun a=>if m2&&a.1.isBr then none else (g a.2).map fun b=>(a.1::b.1,b.2)
def bC:jK:=fun E=>some ([],E)
def aL (f:bY) (g:jK):jK:=fun E=>(f E).bind fun a=>(frz a.2 a.1).bind fun b=>(g b.2).map fun c=>(b.1::c.1,c.2)
def gQ (f:jK):bY:=fun E=>(f E).bind fun a=>if a.1.length≤1000000 then some (.sh (.tuple a.1),a.2) else none
def b9 (f:jK):bY:=fun E=>(f E).bind fun a=>if a.1.length≤1000000 then some (.ow a.1,a.2) else none
section
variable {X:Cx} {e:Expr} {es:List Expr} {m1 m2:Bool} {f:bY} {g:kP} {d:jK} {pos:Pos} {K:PySem.W.Frag}
theorem ar:AX X [] false aq:=by
  refine lJ cQ fun σ H Q z=>?_
  obtain ⟨B,E,xs,Xs,res,E',fr,cl,e,q⟩:=z
  cases e
  exact q [] H rfl fr
theorem ag (ha:EX X e m1 f) (hr:AX X es m2 g) (hs:starEach (e::es) X.env=(false,eval e X.env)::starEach es X.env:=by rfl):AX X (e::es) (m1||m2) (af m2 f g):=by
  refine lJ (bi ha hr hs) fun σ H Q z=>?_
  obtain ⟨B,E,xs,Xs,res,E',fr,cl,e,q⟩:=z
  obtain ⟨⟨s,E1⟩,e1,e⟩:=Option.bind_eq_some_iff.mp e
  by_cases hb:(m2&&s.isBr)=true
  · rw [if_pos hb] at e;cases e
  rw [if_neg hb] at e
  obtain ⟨⟨rs,E2⟩,e2,e⟩:=Option.map_eq_some_iff.mp e
  cases e
  refine ⟨B,E,xs,Xs,s,E1,fr,fun z=>cl (by simp [z]),e1,fun v1 H1 fr1=>?_⟩
  refine ⟨B,E1,v1::xs,s::Xs,rs,E2,fr1,fun z=>Calm.cons (cl (by simp [z])) ?_,e2,fun vs H2 hl fr2=>?_⟩
  · cases hs:s.isBr with
    | false=>rfl
    | true=>exact absurd (by simp [z,hs]) hb
  · exact q (v1::vs) H2 (by simp [hl]) (by simpa using fr2)
theorem wx:DX X [] false bC:=by
  refine lJ cQ fun σ H Q z=>?_
  obtain ⟨B,E,xs,Xs,res,E',fr,cl,e,q⟩:=z
  cases e
  exact q [] H rfl fr
theorem uB (ha:EX X e m1 f) (hr:DX X es m2 d) (hs:starEach (e::es) X.env=(false,eval e X.env)::starEach es X.env:=by rfl):DX X (e::es) (m1||m2) (aL f d):=by
  refine lJ (bi ha hr hs) fun σ H Q z=>?_
  obtain ⟨B,E,xs,Xs,res,E',fr,cl,e,q⟩:=z
  obtain ⟨⟨s,E1⟩,e1,e⟩:=Option.bind_eq_some_iff.mp e
  obtain ⟨⟨d1,E2⟩,e2,e⟩:=Option.bind_eq_some_iff.mp e
  obtain ⟨⟨rs,E3⟩,e3,e⟩:=Option.map_eq_some_iff.mp e
  cases e
  refine ⟨B,E,xs,Xs,s,E1,fr,fun z=>cl (by simp [z]),e1,fun v1 H1 ⟨F,A,fr1⟩=>?_⟩
  obtain ⟨F2,A2,fr2⟩:=fr1.frz0 e2
  refine ⟨B,E2,v1::xs, .sh d1::Xs,rs,E3,⟨F2,A2,fr2⟩,fun z=>Calm.cons (cl (by simp [z])) rfl,e3,fun vs H2 hl fr2=>?_⟩
  exact q (v1::vs) H2 (by simp [hl]) (by simpa using fr2)
theorem FrF.shsR {B F:Hp} {σ:iC} {H:Hp} {E:List Sl} {xs:List V} {Xs:List Sl}:∀{us:List V} {es:List PyData} {A:List Addr},us.length=es.length→FrF K B F A σ H E (us++xs) (es.map .sh++Xs)→RpA K F us es∧∃A',FrF K B F A' σ H E xs Xs
  | [],[],A,_,h=>⟨.nil,A,h⟩
  | u::us,e::es,A,hl,h=>by
    obtain ⟨v,A1,ev,rfl,w,ew,r⟩:=h.ext (k:=0) rfl
    cases ev;cases ew
    obtain ⟨A',h'⟩:=FrF.pop (xs:=us++xs) (Xs:=es.map .sh++Xs) h
    obtain ⟨r',q⟩:=FrF.shsR (by simpa using hl) h'
    exact ⟨.cons r r',q⟩
  | [],_::_,_,e,_=>by cases e
  | _::_,[],_,e,_=>by cases e
theorem FrF.shs {B F:Hp} {σ:iC} {H:Hp} {E:List Sl} {xs:List V} {Xs:List Sl} {us:List V} {es:List PyData} {A:List Addr} (hl:us.length=es.length) (h:FrF K B F A σ H E (us.reverse++xs) (es.reverse.map .sh++Xs)):RpA K F us es∧∃A',FrF K B F A' σ H E xs Xs:=by
  obtain ⟨r,q⟩:=FrF.shsR (by simpa using hl) h
  have:=r.rev
  rw [List.reverse_reverse,List.reverse_reverse] at this
  exact ⟨this,q⟩
theorem wy {x1} (h:DX X es m1 d):EX X (.Tuple es x1 pos) m1 (gQ d):=by
  refine bq (we h) fun σ H Q z=>?_
  obtain ⟨B,E,xs,Xs,res,E',fr,cl,e,q⟩:=z
  obtain ⟨⟨ds,E1⟩,e1,e⟩:=Option.bind_eq_some_iff.mp e
  simp only at e
  split at e
  · rename_i hl
    cases e
    refine ⟨B,E,xs,Xs,ds,_,fr,cl,e1,fun vs H1 hv ⟨F,A,fr1⟩=>?_⟩
    obtain ⟨r,A',fr2⟩:=fr1.shs hv
    exact ⟨fP (by omega),fun p hp=>q _ _ ⟨_,_,fr2.newt r hp⟩⟩
  · cases e
theorem wz (h:DX X es m1 d):EX X (.List es pos) m1 (b9 d):=by
  refine bq (wf h) fun σ H Q z=>?_
  obtain ⟨B,E,xs,Xs,res,E',fr,cl,e,q⟩:=z
  obtain ⟨⟨ds,E1⟩,e1,e⟩:=Option.bind_eq_some_iff.mp e
  simp only at e
  split at e
  · rename_i hl
    cases e
    refine ⟨B,E,xs,Xs,ds,_,fr,cl,e1,fun vs H1 hv ⟨F,A,fr1⟩=>?_⟩
    obtain ⟨r,A',fr2⟩:=fr1.shs hv
    exact ⟨fP (by omega),fun p hp=>q _ _ ⟨_,_,fr2.newl r hp⟩⟩
  · cases e
end
def fi:P2:=fun E s1 s2=>(look E s1).bind fun d1=>(look E s2).bind fun d2=>match d2 with
  | .int i=>match d1 with
    | .list ds=>(atI ds i).map fun d=>(if hot E s1&& !aO d then .br d else .sh d,E)
    | .tuple ds=>(atI ds i).map fun d=>(if hot E s1&& !aO d then .br d else .sh d,E)
    | .str z=>if z.length≤1000000 then (atI z.cps.toList i).map fun c=>(.sh (.str ⟨#[c]⟩),E) else none
    | _=>none
  | _=>none
section
variable {K:PySem.W.Frag} {H:Hp}
theorem RpA.atI {vs:List V} {ds:List PyData} {i:Int} {d:PyData} (h:RpA K H vs ds) (e:L2.atI ds i=some d):∃v,L2.atI vs i=some v∧Rp K H v d:=by
  unfold L2.atI at e ⊢
  obtain ⟨j,e1,e2⟩:=Option.bind_eq_some_iff.mp e
  obtain ⟨v,ev,r⟩:=h.get e2
  exact ⟨v,by rw [h.len,e1];exact ev,r⟩
theorem FrF.item {B F:Hp} {A:List Addr} {σ:iC} {E:List Sl} {xs:List V} {Xs:List Sl} {v1 v2 v:V} {s1 s2:Sl} {d:PyData} (fr:FrF K B F A σ H E (v2::v1::xs) (s2::s1::Xs)) (r:Rp K H v d) (f:hot E s1=false→Rp K F v d):
    Frm K B σ H E (v::xs) ((if hot E s1&& !aO d then .br d else .sh d)::Xs):=by
  by_cases hc:(hot E s1&& !aO d)=true
  · rw [if_pos hc]
    exact fr.res2 ⟨rfl,v,rfl,r⟩
  · rw [if_neg hc]
    refine fr.res2 ⟨rfl,v,rfl,?_⟩
    cases hh:hot E s1 with
    | false=>exact f hh
    | true=>
      rw [hh] at hc
      exact fr.cold r (by simpa using hc)
theorem wA:gf K (zR K) fi:=by
  intro B F A σ H E xs Xs v1 v2 s1 s2 res E' Q fr e q
  obtain ⟨d1,e1,e⟩:=Option.bind_eq_some_iff.mp e
  obtain ⟨d2,e2,e⟩:=Option.bind_eq_some_iff.mp e
  obtain ⟨r1,f1⟩:=fr.look1 e1
  have r2:=(fr.look0 e2).1
  split at e
  · cases r2
    split at e
    · obtain ⟨d,ed,e⟩:=Option.map_eq_some_iff.mp e
      cases e
      cases hh:hot E s1 with
      | false=>
        obtain ⟨a,vs,rfl,h1,h2⟩:=f1 hh
        obtain ⟨v,ev,rv⟩:=h2.atI ed
        have z:=fr.item (rv.same fr.fh) fun _=>rv
        rw [hh] at z q
        exact .inl ⟨_,_,_,v,rfl,rfl,h1,ev,q _ _ z⟩
      | true=>
        cases r1 with
        | lst h1 h2=>
          obtain ⟨v,ev,rv⟩:=h2.atI ed
          have z:=fr.item rv fun h=>absurd (hh.symm.trans h) (by decide)
          rw [hh] at z q
          exact .inl ⟨_,_,_,v,rfl,rfl,h1,ev,q _ _ z⟩
    · obtain ⟨d,ed,e⟩:=Option.map_eq_some_iff.mp e
      cases e
      cases hh:hot E s1 with
      | false=>
        have h0:Rp K F v1 _:=f1 hh
        cases h0 with
        | tup h1 h2=>
          obtain ⟨v,ev,rv⟩:=h2.atI ed
          have z:=fr.item (rv.same fr.fh) fun _=>rv
          rw [hh] at z q
          exact .inr (.inl ⟨_,_,_,v,rfl,rfl,fr.fh.tup h1,ev,q _ _ z⟩)
      | true=>
        cases r1 with
        | tup h1 h2=>
          obtain ⟨v,ev,rv⟩:=h2.atI ed
          have z:=fr.item rv fun h=>absurd (hh.symm.trans h) (by decide)
          rw [hh] at z q
          exact .inr (.inl ⟨_,_,_,v,rfl,rfl,h1,ev,q _ _ z⟩)
    · split at e
      · rename_i hl
        obtain ⟨c,ec,e⟩:=Option.map_eq_some_iff.mp e
        cases e;cases r1
        exact .inr (.inr ⟨_,_,c,rfl,rfl,fP hl,ec,q _ _ (fr.res2 ⟨rfl,_,rfl, .str _⟩)⟩)
      · cases e
    · cases e
  · cases e
end
end PL
namespace L2
open PySem PySem.Spec PyProof.Rows
section
variable {κ:Type} [DecidableEq κ]
def jh (kvs:List (κ×V)) (k:κ):Option V:=(kvs.find? fun kv=>decide (kv.1=k)).map (·.2)
def mU (kvs:List (κ×V)) (k:κ) (v:V):List (κ×V):=
  if (kvs.any fun kv=>decide (kv.1=k))=true then kvs.map (fun kv=>if kv.1=k then (kv.1,v) else kv) else kvs++[(k,v)]
def vA (kvs:List (κ×V)) (k:κ):List (κ×V):=kvs.filter fun kv=>decide (kv.1≠k)
theorem jP {p:κ×V} {r:List (κ×V)} {k:κ} (e:p.1=k):jh (p::r) k=some p.2:=by simp [jh,List.find?_cons,e]
theorem jQ {p:κ×V} {r:List (κ×V)} {k:κ} (e:¬p.1=k):jh (p::r) k=jh r k:=by simp [jh,List.find?_cons,e]
theorem mV (k:κ):∀kvs:List (κ×V),(kvs.any fun kv=>decide (kv.1=k))=(jh kvs k).isSome
  | []=>rfl
  | p::r=>by
    rw [List.any_cons]
    by_cases e:p.1=k
    · simp only [jP e,decide_eq_true e,Bool.true_or,Option.isSome_some]
    · rw [jQ e,decide_eq_false e,Bool.false_or];exact mV k r
theorem RelO.isSome_eq {o:Option V} {u:Option Value} (r:RelO o u):o.isSome=u.isSome:=by
  cases o with
  | none=>cases u with
    | none=>rfl
    | some _=>exact (show False from r).elim
  | some _=>cases u with
    | none=>exact (show False from r).elim
    | some _=>rfl
theorem RelO.getD {o:Option V} {u:Option Value} {d:V} {d':Value} (r:RelO o u) (rd:RelV d d'):RelV (o.getD d) (u.getD d'):=by
  cases o with
  | none=>cases u with
    | none=>exact rd
    | some _=>exact (show False from r).elim
  | some _=>cases u with
    | none=>exact (show False from r).elim
    | some _=>exact r
theorem KV.val {kvs:List (κ×V)} {vs:List (κ×Value)} (r:KV kvs vs) (k:κ):RelO (jh kvs k) (valueAt vs k):=by
  unfold KV at r
  induction r with
  | nil=>exact True.intro
  | @cons p q ps qs h t ih=>
    obtain ⟨h1,h2⟩:=h
    by_cases e:p.1=k
    · have e':q.1=k:=h1.symm.trans e
      have b:valueAt (q::qs) k=some q.2:=by simp [valueAt,List.find?_cons,e']
      rw [jP e,b];exact h2
    · have e':¬q.1=k:=fun z=>e (h1.trans z)
      have b:valueAt (q::qs) k=valueAt qs k:=by simp [valueAt,List.find?_cons,e']
      rw [jQ e,b];exact ih
theorem KV.any {kvs:List (κ×V)} {vs:List (κ×Value)} (r:KV kvs vs) (k:κ):(kvs.any fun kv=>decide (kv.1=k))=vs.any fun kv=>decide (kv.1=k):=by
  unfold KV at r
  induction r with
  | nil=>rfl
  | cons h t ih=>rw [List.any_cons,List.any_cons,ih,h.1]
theorem KV.repl {kvs:List (κ×V)} {vs:List (κ×Value)} (r:KV kvs vs) (k:κ) {y:V} {u:Value} (ry:RelV y u):
    KV (kvs.map fun kv=>if kv.1=k then (kv.1,y) else kv) (vs.map fun kv=>if kv.1=k then (kv.1,u) else kv):=by
  unfold KV at r ⊢
  induction r with
  | nil=>exact .nil
  | @cons p q ps qs h t ih=>
    rw [List.map_cons,List.map_cons]
    refine .cons ?_ ih
    obtain ⟨h1,h2⟩:=h
    by_cases e:p.1=k
    · rw [if_pos e,if_pos (h1.symm.trans e)];exact ⟨h1,ry⟩
    · rw [if_neg e,if_neg (fun z=>e (h1.trans z))];exact ⟨h1,h2⟩
theorem KV.put {kvs:List (κ×V)} {vs:List (κ×Value)} (r:KV kvs vs) (k:κ) {y:V} {u:Value} (ry:RelV y u):KV (mU kvs k y) (stored vs k u):=by
  unfold mU stored
  rw [r.any k]
  by_cases e:(vs.any fun kv=>decide (kv.1=k))=true
  · rw [if_pos e,if_pos e];exact r.repl k ry
  · rw [if_neg e,if_neg e];exact Paired.snoc r ⟨rfl,ry⟩
theorem KV.drop {kvs:List (κ×V)} {vs:List (κ×Value)} (r:KV kvs vs) (k:κ):KV (vA kvs k) (without vs k):=by
  unfold KV at r ⊢
  unfold vA without
  induction r with
  | nil=>exact .nil
  | @cons p q ps qs h t ih=>
    obtain ⟨h1,h2⟩:=h
    rw [List.filter_cons,List.filter_cons]
    by_cases e:p.1=k
    · have a:¬decide (p.1≠k)=true:=by simp [e]
      have b:¬decide (q.1≠k)=true:=by simp [h1.symm.trans e]
      rw [if_neg a,if_neg b];exact ih
    · have e':¬q.1=k:=fun z=>e (h1.trans z)
      have a:decide (p.1≠k)=true:=by simp [e]
      have b:decide (q.1≠k)=true:=by simp [e']
      rw [if_pos a,if_pos b];exact .cons ⟨h1,h2⟩ ih
theorem KV.keys {kvs:List (κ×V)} {vs:List (κ×Value)} (r:KV kvs vs):kvs.map (·.1)=vs.map (·.1):=by
  unfold KV at r
  induction r with
  | nil=>rfl
  | cons h t ih=>rw [List.map_cons,List.map_cons,ih,h.1]
theorem KV.length {kvs:List (κ×V)} {vs:List (κ×Value)} (r:KV kvs vs):kvs.length=vs.length:=Paired.length r
end
abbrev KT (H:Hp):List (List dG×V)→List (List dG×Addr×Value)→Prop:=Paired fun p q=>p.1=q.1∧H q.2.1=some (.tup (p.1.map kV))∧RelV p.2 q.2.2
theorem KT.val {H:Hp} {kvs:List (List dG×V)} {xs:List (List dG×Addr×Value)} (r:KT H kvs xs) (k:List dG):RelO (jh kvs k) ((atKey xs k).map (·.2)):=by
  induction r with
  | nil=>exact True.intro
  | @cons p q ps qs h t ih=>
    obtain ⟨h1,_,h2⟩:=h
    by_cases e:p.1=k
    · have e':q.1=k:=h1.symm.trans e
      have b:atKey (q::qs) k=some q.2:=by simp [atKey,List.find?_cons,e']
      rw [jP e,b];exact h2
    · have e':¬q.1=k:=fun z=>e (h1.trans z)
      have b:atKey (q::qs) k=atKey qs k:=by simp [atKey,List.find?_cons,e']
      rw [jQ e,b];exact ih
theorem KT.repl {H:Hp} {kvs:List (List dG×V)} {xs:List (List dG×Addr×Value)} (r:KT H kvs xs) (k:List dG) {y:V} {u:Value} (ry:RelV y u):
    KT H (kvs.map fun kv=>if kv.1=k then (kv.1,y) else kv) (xs.map (putAt k u)):=by
  induction r with
  | nil=>exact .nil
  | @cons p q ps qs h t ih=>
    rw [List.map_cons,List.map_cons]
    refine .cons ?_ ih
    obtain ⟨h1,h2,h3⟩:=h
    unfold putAt
    by_cases e:p.1=k
    · rw [if_pos e,if_pos (h1.symm.trans e)];exact ⟨h1,h2,ry⟩
    · rw [if_neg e,if_neg (fun z=>e (h1.trans z))];exact ⟨h1,h2,h3⟩
theorem KT.put {H:Hp} {kvs:List (List dG×V)} {xs:List (List dG×Addr×Value)} (r:KT H kvs xs) (k:List dG) {b:Addr} {y:V} {u:Value} (hb:H b=some (.tup (k.map kV))) (ry:RelV y u):
    KT H (mU kvs k y) (storedH xs k b u):=by
  have e:(kvs.any fun kv=>decide (kv.1=k))=(atKey xs k).isSome:=by
    rw [mV,(r.val k).isSome_eq,Option.isSome_map]
  unfold mU storedH
  rw [e]
  by_cases q:(atKey xs k).isSome=true
  · rw [if_pos q,if_pos q];exact r.repl k ry
  · rw [if_neg q,if_neg q];exact Paired.snoc r ⟨rfl,hb,ry⟩
theorem KT.keeps {H H':Hp} {kvs:List (List dG×V)} {xs:List (List dG×Addr×Value)} (r:KT H kvs xs) (ht:∀b ys,H b=some (.tup ys)→H' b=some (.tup ys)):KT H' kvs xs:=
  Paired.mapP r fun _ _ z=>⟨z.1,ht _ _ z.2.1,z.2.2⟩
section
variable {P:Program} {w:World} {H:Hp} {h:Heap} {a:Addr}
theorem yh {u:HO} (ok:HOk P w H h) (e:Rd H a u):ObjOk P w H h a u:=e.ok ok
theorem yi {kvs:List (dG×V)} (ok:HOk P w H h) (e:Rd H a (.dK kvs)):kvs.length≤sizeLine∧(a == sysModules)=false∧∃vs,KV kvs vs∧h.DictOf (jn P w) a vs:=
  show ObjOk P w H h a (.dK kvs) from yh ok e
end
def DGet (H:Hp) (a:Addr) (y:V) (r:Option V):Prop:=
  (∃kvs k,Rd H a (.dK kvs)∧y=kV k∧r=jh kvs k)∨∃kvs k b,Rd H a (.dT kvs)∧y= .ref b∧H b=some (.tup (k.map kV))∧r=jh kvs k
def DPut (H:Hp) (a:Addr) (y v:V) (H':Hp):Prop:=
  (∃kvs k,H a=some (.dK kvs)∧y=kV k∧kvs.length < sizeLine∧H'=upd H a (.dK (mU kvs k v)))∨
  ∃kvs k b,H a=some (.dT kvs)∧y= .ref b∧H b=some (.tup (k.map kV))∧kvs.length < sizeLine∧H'=upd H a (.dT (mU kvs k v))
theorem DGet.k {H:Hp} {a:Addr} {kvs:List (dG×V)} {k:dG} (e:H a=some (.dK kvs)):DGet H a (kV k) (jh kvs k):= .inl ⟨kvs,k, .inl e,rfl,rfl⟩
theorem DGet.t {H:Hp} {a b:Addr} {kvs:List (List dG×V)} {k:List dG} (e:H a=some (.dT kvs)) (eb:H b=some (.tup (k.map kV))):DGet H a (.ref b) (jh kvs k):= .inr ⟨kvs,k,b, .inl e,rfl,eb,rfl⟩
theorem DPut.k {H:Hp} {a:Addr} {kvs:List (dG×V)} {k:dG} {v:V} (e:H a=some (.dK kvs)) (hl:kvs.length < sizeLine):DPut H a (kV k) v (upd H a (.dK (mU kvs k v))):= .inl ⟨kvs,k,e,rfl,hl,rfl⟩
theorem DPut.t {H:Hp} {a b:Addr} {kvs:List (List dG×V)} {k:List dG} {v:V} (e:H a=some (.dT kvs)) (eb:H b=some (.tup (k.map kV))) (hl:kvs.length < sizeLine):
    DPut H a (.ref b) v (upd H a (.dT (mU kvs k v))):= .inr ⟨kvs,k,b,e,rfl,eb,hl,rfl⟩
section
variable {X:Cx} {pins:List (Addr×Obj)} {σ:St} {H:Hp} {s:Shared} {a:Addr} {y v:V} {u r:Value} {o:Option V} {A:Around} {E:Value→Shared→Prop}
theorem Inv.big (I:Inv X pins σ H s):sysModules < s.heap.objs.size:=by
  have h:mainGlobals < s.heap.objs.size:=(I.mod.glob.keeps I.bk).lt
  exact Nat.lt_trans (by decide) h
end
end L2
namespace PL
open PySem L2 Nh
theorem dI {X:Cx} {a b:Expr} {m1 m2:Bool} {f g:bY} {pos:Pos} (ha:EX X a m1 f) (hb:EX X b m2 g) (hs:oT b:=by exact fun _ _=>rfl):EX X (.Subscript a b pos) (m1||m2) (ah fi m2 f g):=bq (qX wk ha hb hs) fun _ _ _ h=>lK wA h
abbrev Ai:=List Sl→Option (Option Int×List Sl)
def ro (K:PySem.W.Frag) (m:Bool) (f:Ai):TO:=fun σ H Q=>∃B E xs Xs o E',Frm K B σ H E xs Xs∧(m=true→Calm Xs)∧f E=some (o,E')∧∀H',Frm K B σ H' E' xs Xs→Q o H'
def aF (E:List Sl):List Sl→Option (List PyData)
  | []=>some []
  | s::ss=>(look E s).bind fun d=>(aF E ss).map fun ds=>d::ds
theorem lookA_iff {E:List Sl}:∀{ss:List Sl} {ds:List PyData},aF E ss=some ds↔Paired (fun s d=>look E s=some d) ss ds
  | [],ds=>⟨fun h=>by cases h;exact .nil,fun h=>by cases h;rfl⟩
  | s::ss,ds=>by
    constructor
    · intro h
      obtain ⟨d,h1,h⟩:=Option.bind_eq_some_iff.mp h
      obtain ⟨es,h2,h⟩:=Option.map_eq_some_iff.mp h
      cases h
      exact .cons h1 (lookA_iff.mp h2)
    · intro h
      cases h with
      | cons h1 h2=>simp [aF,h1,lookA_iff.mpr h2]
theorem pU {E:List Sl} {ss:List Sl} {ds:List PyData} (h:aF E ss=some ds):aF E ss.reverse=some ds.reverse:=lookA_iff.mpr (gW (lookA_iff.mp h))
section
variable {X:Cx} {K:PySem.W.Frag} {B F:Hp} {σ:iC} {H:Hp} {E:List Sl} {xs:List V} {Xs:List Sl}
theorem FrF.looksR:∀{us:List V} {ts:List Sl} {es:List PyData} {A:List Addr},us.length=ts.length→FrF K B F A σ H E (us++xs) (ts++Xs)→aF E ts=some es→RpA K H us es∧∃A',FrF K B F A' σ H E xs Xs
  | [],[],es,A,_,h,e=>by cases e;exact ⟨.nil,A,h⟩
  | u::us,t::ts,es,A,hl,h,e=>by
    obtain ⟨d,h1,e⟩:=Option.bind_eq_some_iff.mp e
    obtain ⟨es',h2,e⟩:=Option.map_eq_some_iff.mp e
    cases e
    have r:=(FrF.look0 (xs:=us++xs) (Xs:=ts++Xs) h h1).1
    obtain ⟨A',h'⟩:=FrF.pop (xs:=us++xs) (Xs:=ts++Xs) h
    obtain ⟨r',q⟩:=FrF.looksR (by simpa using hl) h' h2
    exact ⟨.cons r r',q⟩
  | [],_::_,_,_,e,_,_=>by cases e
  | _::_,[],_,_,e,_,_=>by cases e
theorem FrF.looks {us:List V} {ts:List Sl} {es:List PyData} {A:List Addr} (hl:us.length=ts.length) (h:FrF K B F A σ H E (us.reverse++xs) (ts.reverse++Xs)) (e:aF E ts=some es):RpA K H us es∧∃A',FrF K B F A' σ H E xs Xs:=by
  obtain ⟨r,q⟩:=FrF.looksR (by simpa using hl) h (pU e)
  have:=r.rev
  rw [List.reverse_reverse,List.reverse_reverse] at this
  exact ⟨this,q⟩
end
def wB (K:PySem.W.Frag) (r:List V→Hp→VK→Prop) (op:List PyData→Option PyData):Prop:=∀(ds:List PyData) (d:PyData) (vs:List V) (H:Hp) (Q:VK),op ds=some d→RpA K H vs ds→∃v,vv d=some v∧(Q v H→r vs H Q)
def bB (op:List PyData→Option PyData) (g:kP):bY:=fun E=>(g E).bind fun a=>(aF a.2 a.1).bind fun ds=>(op ds).map fun d=>(.sh d,a.2)
theorem n5 {K:PySem.W.Frag} {r:List V→Hp→VK→Prop} {op:List PyData→Option PyData} (hp:wB K r op) {m:Bool} {g:kP} {σ:iC} {H:Hp} {Q:VK} (h:rd K m (bB op g) σ H Q):wg r (ra K m g) σ H Q:=by
  obtain ⟨B,E,xs,Xs,res,E',fr,cl,e,q⟩:=h
  obtain ⟨⟨rs,E1⟩,e1,e⟩:=Option.bind_eq_some_iff.mp e
  obtain ⟨ds,e2,e⟩:=Option.bind_eq_some_iff.mp e
  obtain ⟨d,e3,e⟩:=Option.map_eq_some_iff.mp e
  cases e
  refine ⟨B,E,xs,Xs,rs,E1,fr,cl,e1,fun vs H1 hl ⟨F,A,fr1⟩=>?_⟩
  obtain ⟨r1,A',fr2⟩:=fr1.looks hl e2
  obtain ⟨v,hv,k⟩:=hp ds d vs H1 Q e3 r1
  exact k (q v H1 ⟨F,A',fr2.push ⟨rfl,v,rfl,jL hv⟩⟩)
def dX:List PyData→Option PyData
  | [.list xs]=>some (.int xs.length)
  | [.tuple xs]=>some (.int xs.length)
  | [.str z]=>if z.length≤1000000 then some (.int z.length) else none
  | _=>none
def rN:List PyData→Option PyData
  | [.int i]=>some (.int (if i < 0 then -i else i))
  | _=>none
theorem RpA.one {K:PySem.W.Frag} {H:Hp} {vs:List V} {d:PyData} (h:RpA K H vs [d]):∃v,vs=[v]∧Rp K H v d:=by
  cases h with
  | cons h t=>cases t;exact ⟨_,rfl,h⟩
theorem RpA.two {K:PySem.W.Frag} {H:Hp} {vs:List V} {d e:PyData} (h:RpA K H vs [d,e]):∃v u,vs=[v,u]∧Rp K H v d∧Rp K H u e:=by
  cases h with
  | cons h t=>
    obtain ⟨u,rfl,r⟩:=t.one
    exact ⟨_,_,rfl,h,r⟩
section
variable {X:Cx} {e:Expr} {es:List Expr} {m1:Bool} {g:kP} {p pos:Pos} {K:PySem.W.Frag}
abbrev yj (K:PySem.W.Frag):List V→Hp→VK→Prop:=fun xs H Q=>(∃p ys,xs=[.ref p]∧(SqL K H p ys∨SqT K H p ys)∧Q (.int ys.length) H)∨(∃z,xs=[.str z]∧z.length≤sizeLine∧Q (.int z.length) H)
theorem uC:wB K (yj K) dX:=fun ds d vs H Q e r=>by
  unfold dX at e
  split at e
  · cases e
    obtain ⟨v,rfl,r'⟩:=r.one
    cases r' with
    | lst h1 h2=>exact ⟨_,rfl,fun q=> .inl ⟨_,_,rfl, .inl h1,by rw [h2.len];exact q⟩⟩
  · cases e
    obtain ⟨v,rfl,r'⟩:=r.one
    cases r' with
    | tup h1 h2=>exact ⟨_,rfl,fun q=> .inl ⟨_,_,rfl, .inr h1,by rw [h2.len];exact q⟩⟩
  · split at e
    · rename_i hl
      cases e
      obtain ⟨v,rfl,r'⟩:=r.one
      cases r'
      exact ⟨_,rfl,fun q=> .inr ⟨_,rfl,fP hl,q⟩⟩
    · cases e
  · cases e
theorem mX {x:Str} {id:String} {r:List V→Hp→VK→Prop} {op:List PyData→Option PyData} (hp:wB X.K r op) (hc:CallR X (.builtin id) r) (hg:Gl X x) (hm:X.mg x=none) (hv:bootBuiltins x=some (.builtin id)) (ha:AX X (e::es) m1 g) (hn:x≠"__name__":=by decide) (hdb:(x == ("__debug__":Str))=false:=by decide)
    (he:starEach (e::es) X.env=(false,eval e X.env)::starEach es X.env:=by rfl) (hpl:(backTo pos (starEach es X.env)).any (·.1)=false:=by rfl):EX X (.Call (.Name x p) (e::es) [] pos) m1 (bB op g):=
  bq (eZ hc hg hm hv ha hn hdb he hpl) fun _ _ _ h=>n5 hp h
theorem e9 (hg:Gl X "len") (hm:X.mg "len"=none) (ha:AX X [e] m1 g) (he:starEach [e] X.env=[(false,eval e X.env)]:=by rfl):EX X (.Call (.Name "len" p) [e] [] pos) m1 (bB dX g):=mX uC (CallR.or hU lC) hg hm PySem.boot_len ha (by decide) (by decide) he rfl
theorem wC (hg:Gl X "abs") (hm:X.mg "abs"=none) (ha:AX X [e] m1 g) (he:starEach [e] X.env=[(false,eval e X.env)]:=by rfl):EX X (.Call (.Name "abs" p) [e] [] pos) m1 (bB rN g):=mX (fun ds d vs H Q e r=>by
  unfold rN at e
  split at e
  · cases e
    obtain ⟨v,rfl,r'⟩:=r.one
    cases r'
    exact ⟨_,rfl,fun q=>⟨_,rfl,q⟩⟩
  · cases e) mH hg hm PyProof.Rows.boot_abs ha (by decide) (by decide) he rfl
end
inductive Ty where
  | non | bool | int | str | list | tuple | dict
def Ty.name:Ty→String
  | .non=>"NoneType"
  | .bool=>"bool"
  | .int=>"int"
  | .str=>"str"
  | .list=>"list"
  | .tuple=>"tuple"
  | .dict=>"dict"
def Ty.is:Ty→Ty→Bool
  | .non, .non=>true
  | .bool, .bool=>true
  | .bool, .int=>true
  | .int, .int=>true
  | .str, .str=>true
  | .list, .list=>true
  | .tuple, .tuple=>true
  | .dict, .dict=>true
  | _,_=>false
def wD:PyData→Ty
  | .none=> .non
  | .bool _=> .bool
  | .int _=> .int
  | .str _=> .str
  | .list _=> .list
  | .tuple _=> .tuple
  | .dict _=> .dict
theorem yk (K:PySem.W.Frag) (t n:Ty):PySem.W.kitOne K (.type t.name) (.type n.name)=some (t.is n):=by cases t <;> cases n <;> rfl
def ji (n:Ty):PyData→Option PyData
  | .dict ((.none,_)::_)=>none
  | d=>some (.bool ((wD d).is n))
section
variable {X:Cx} {e:Expr} {m1:Bool} {f:bY} {p p2 pos:Pos}
theorem pV {pins:List (Addr×Obj)} {s:Shared} {σ:iC} {H:Hp} {x:V} {u:Value} {d r:PyData} {n:Ty} {A:Around} {E:Value→Shared→Prop} {Q:Value→Shared→Prop} (I:Inv X pins σ H s) (rx:RelV x u) (rp:Rp X.K H x d) (hd:ji n d=some r) (h:∀tk b,r= .bool b→Q (.bool b) {s with toks:=tk}):
    wpAny (model X.prog X.w) A (call (.builtin "isinstance") [u, .type n.name]) Q E s:=by
  have e:=yk X.K (wD d) n
  have h:∀tk,r= .bool ((wD d).is n)→Q (.bool ((wD d).is n)) {s with toks:=tk}:=fun tk z=>h tk _ z
  cases rp with
  | non=>cases hd;exact gI I rx .non e fun tk=>h tk rfl
  | bl b=>cases hd;exact gI I rx (.bl b) e fun tk=>h tk rfl
  | int i=>cases hd;exact gI I rx (.int i) e fun tk=>h tk rfl
  | str y=>cases hd;exact gI I rx (.str y) e fun tk=>h tk rfl
  | lst h1 _=>
    cases hd
    cases rx
    obtain ⟨its,rv,⟨o,n',e1,c,_,d⟩,_⟩:=I.list h1
    exact PySem.W.kia_one PySem.W.kitx_list I.kIn ⟨_,e1,c⟩ e (fun z=>nomatch z) fun tk=>h tk rfl
  | tup h1 _=>
    cases hd
    cases rx
    obtain ⟨its,rv,⟨o,e1,c,n',d⟩,_⟩:=I.tuple h1
    exact PySem.W.kia_one PySem.W.kitx_tuple I.kIn ⟨_,e1,c⟩ e (fun z=>nomatch z) fun tk=>h tk rfl
  | dct h1 hk=>
    cases rx
    obtain ⟨_,_,vs,_,ob,es,ep,e1,c,_⟩:=yi I.hok h1
    refine PySem.W.kia_one PySem.W.kitx_dict I.kIn ⟨_,e1,c.1⟩ e (fun z=>nomatch z) fun tk=>h tk ?_
    cases hk with
    | nil=>cases hd;rfl
    | @cons k x us d kvs a b=>cases k <;> (cases hd;rfl)
  | exc h1 h2=>cases hd
  | obj c h n r=>cases hd
theorem pW (n:Ty):CallR X (.builtin "isinstance") (fun xs H Q=>∃x d r,xs=[x, .ty n.name]∧Rp X.K H x d∧ji n d=some r∧∀b,r= .bool b→Q (.bl b) H):=by
  intro pins s σ H xs us Q I r h
  obtain ⟨x,d,r',rfl,rp,hd,q⟩:=h
  obtain ⟨u,w',rfl,ru,rw'⟩:=r.two
  cases (show w'=Value.type n.name from rw')
  exact pV I ru rp hd fun tk b z=>⟨.bl _,H,I.tok _,rfl,q b z⟩
theorem iK (n:Ty) (hg:Gl X "isinstance") (hm:X.mg "isinstance"=none) (ha:EX X e m1 f) {x:Str} (hgx:Gl X x) (hmx:X.mg x=none) (hbx:bootBuiltins x=some (.type n.name)) (hnx:x≠"__name__":=by decide) (hdx:(x == ("__debug__":Str))=false:=by decide)
    (he:starEach [e, .Name x p2] X.env=(false,eval e X.env)::starEach [.Name x p2] X.env:=by rfl) (he2:starEach [.Name x p2] X.env=[(false,eval (.Name x p2) X.env)]:=by rfl) (hpl:(backTo pos (starEach [.Name x p2] X.env)).any (·.1)=false:=by rfl):
    EX X (.Call (.Name "isinstance" p) [e, .Name x p2] [] pos) m1 (gh (ji n) f):=by
  have h2:PE X (.Name x p2) (tC (.ty n.name)):=tU (v:= .ty n.name) hgx hmx hbx rfl hnx hdx
  refine bq (eZ (pW n) hg hm PyProof.Rows.boot_isinstance (bi ha (bi h2 cQ he2) he) (by decide) (by decide) he hpl) fun σ H Q z=>?_
  obtain ⟨B,E,xs,Xs,res,E',fr,cl,e,q⟩:=z
  obtain ⟨⟨s,E1⟩,e1,e⟩:=Option.bind_eq_some_iff.mp e
  obtain ⟨d1,e2,e⟩:=Option.bind_eq_some_iff.mp e
  obtain ⟨d2,e3,e⟩:=Option.map_eq_some_iff.mp e
  cases e
  refine ⟨B,E,xs,Xs,s,E1,fr,cl,e1,fun v1 H1 ⟨F,A,fr1⟩=>?_⟩
  obtain ⟨A',fr2⟩:=fr1.pop
  exact ⟨v1,d1,d2,rfl,(fr1.look0 e2).1,e3,fun b z=>q _ _ ⟨F,A',fr2.push ⟨rfl,_,rfl,z▸ .bl b⟩⟩⟩
end
end PL
namespace PL
open PySem L2 Nh
def i6 (K:PySem.W.Frag) (H H':Hp) (v:V):Sl→Prop
  | .sh d=>Rp K (tups H') v d
  | .ow ds=>∃l vs,v= .ref l∧H l=none∧H' l=some (.lst vs)∧RpA K (tups H') vs ds
  | .tx ps=>∃t vs A,v= .ref t∧tups H' t=some (.tup vs)∧A.Nodup∧(∀a∈A,H a=none)∧PtsOk K (tups H') H' vs ps A
  | .od kvs=>∃l us A,v= .ref l∧(l::A).Nodup∧(∀a∈l::A,H a=none)∧H' l=some (.dK us)∧DlOk K (tups H') H' us kvs A
  | .br d=>Rp K H' v d
  | _=>False
def dh (K:PySem.W.Frag) (c:List PyData→Option Sl):Sp:=fun vs H Q _=>∃ds r,c ds=some r∧RpA K H vs ds∧∀v H',Same H H'→i6 K H H' v r→Q v H'
section
variable {K:PySem.W.Frag} {B F:Hp} {A N:List Addr} {σ:iC} {H H':Hp} {E:List Sl} {xs:List V} {Xs:List Sl} {v:V} {s:Sl}
theorem FrF.growN (h:FrF K B F A σ H E xs Xs) (g:Same H H') (hN:∀a∈N,H a=none∧((∃us,H' a=some (.lst us))∨∃us,H' a=some (.dK us))):FrF K B (fun b=>if b∈N then none else if b∈A then none else H' b) A σ H' E xs Xs:=by
  have h1:=h.grow g
  have nF:∀b o,F b=some o→b∉N:=fun b o e hb=>by
    have:=h.fh.free (hN b hb).1
    rw [this] at e;cases e
  have FF:Same F (fun b=>if b∈N then none else if b∈A then none else H' b):=fun b o e=>by
    have nA:b∉A:=fun hb=>by rw [h.fr b hb] at e;cases e
    show (if b∈N then none else if b∈A then none else H' b)=some o
    rw [if_neg (nF b o e),if_neg nA]
    exact g _ _ (h.fh _ _ e)
  have hA:∀b∈A,H' b=H b:=fun b hb=>by
    rcases h.mutA b hb with ⟨_,z⟩ | ⟨_,z⟩ <;> rw [z,g _ _ z]
  refine ⟨h.bf.trans FF,fun b o e=>?_,fun b o e=>?_,h.sl.mono fun o s C _ hC q=>q.stay FF (fun b hb=>hA b (hC b hb)) fun _=>g,h.nd,fun a ha=>?_,h.len,h.pl⟩
  · by_cases hb:b∈N
    · rw [if_pos hb] at e;cases e
    · rw [if_neg hb] at e;exact h1.fh _ _ e
  · show (if b∈N then none else if b∈A then none else H' b)=some o
    by_cases hb:b∈N
    · obtain ⟨e1,e2⟩:=Option.filter_eq_some_iff.mp e
      rcases (hN b hb).2 with ⟨us,z⟩ | ⟨us,z⟩ <;> rw [z] at e1 <;> cases e1 <;> cases e2
    · rw [if_neg hb];exact h1.tf _ _ e
  · show (if a∈N then none else if a∈A then none else H' a)=none
    by_cases hb:a∈N
    · rw [if_pos hb]
    · rw [if_neg hb,if_pos ha]
theorem FrF.pushR (h:FrF K B F A σ H E xs Xs) (q:SlOk K F H σ (some v) s N) (nd:N.Nodup) (dj:∀a∈N,a∉A) (fr:∀a∈N,F a=none):FrF K B F (N++A) σ H E (v::xs) (s::Xs):=
  ⟨h.bf,h.fh,h.tf, .cons q h.sl,List.nodup_append.mpr ⟨nd,h.nd,fun a ha b hb e=>dj a ha (e▸hb)⟩,fun a ha=>(List.mem_append.mp ha).elim (fr a) (h.fr a),by simp [h.len],h.pl⟩
theorem FrF.told (h:FrF K B F A σ H E xs Xs) (g:Same H H') (q:i6 K H H' v s):Frm K B σ H' E (v::xs) (s::Xs):=by
  cases s with
  | sh d=>
    have h1:=h.grow g
    exact ⟨_,_,h1.push ⟨rfl,v,rfl,Rp.same h1.tf q⟩⟩
  | ow ds=>
    obtain ⟨l,vs,rfl,hl,hl',r⟩:=q
    have h1:=h.growN (N:=[l]) g fun a ha=>by rw [List.mem_singleton.mp ha];exact ⟨hl, .inl ⟨vs,hl'⟩⟩
    exact ⟨_,_,h1.pushR (N:=[l]) ⟨l,vs,rfl,rfl,hl',r.same h1.tf⟩ (by simp) (fun a ha=>by rw [List.mem_singleton.mp ha];exact h.newA hl) fun a ha=>if_pos ha⟩
  | tx ps=>
    obtain ⟨t,vs,N,rfl,ht,nd,hN,r⟩:=q
    have h1:=h.growN (N:=N) g fun a ha=>⟨hN a ha, .inl (r.some a ha)⟩
    exact ⟨_,_,h1.pushR (N:=N) ⟨t,vs,rfl,h1.tf _ _ ht,r.stay h1.tf fun _ _=>rfl⟩ nd (fun a ha=>h.newA (hN a ha)) fun a ha=>if_pos ha⟩
  | no=>exact False.elim q
  | od kvs=>
    obtain ⟨l,us,N,rfl,nd,hN,hl,r⟩:=q
    have h1:=h.growN (N:=l::N) g fun a ha=>⟨hN a ha,(List.mem_cons.mp ha).elim (fun z=> .inr ⟨us,z▸hl⟩) fun z=> .inl (r.some a z)⟩
    exact ⟨_,_,h1.pushR (N:=l::N) ⟨l,us,N,rfl,rfl,hl,r.stay h1.tf fun _ _=>rfl⟩ nd (fun a ha=>h.newA (hN a ha)) fun a ha=>if_pos ha⟩
  | al i=>exact False.elim q
  | br d=>
    have h1:=h.grow g
    exact ⟨_,_,h1.push ⟨rfl,v,rfl,q⟩⟩
end
def au (c:List PyData→Option Sl) (g:kP):bY:=fun E=>(g E).bind fun a=>(aF a.2 a.1).bind fun ds=>(c ds).map fun r=>(r,a.2)
theorem aK {X:Cx} {k:Nat} {x:Str} {ps:List Str} {c:List PyData→Option Sl} {p pos:Pos} {e:Expr} {es:List Expr} {m:Bool} {g:kP} (D:Own X.prog X.w X.K X.mg X.base k x ps (dh X.K c)) (hr:Room k X.A) (hg:Gl X x) (ha:AX X (e::es) m g)
    (hdb:(x == ("__debug__":Str))=false:=by decide) (he:starEach (e::es) X.env=(false,eval e X.env)::starEach es X.env:=by rfl) (hpl:(backTo pos (starEach es X.env)).any (·.1)=false:=by rfl):
    EX X (.Call (.Name x p) (e::es) [] pos) m (au c g):=by
  refine bq (rq D hr hg ha hdb he hpl) fun σ H Q z=>?_
  obtain ⟨B,E,xs,Xs,res,E',fr,cl,e,q⟩:=z
  obtain ⟨⟨rs,E1⟩,e1,e⟩:=Option.bind_eq_some_iff.mp e
  obtain ⟨ds,e2,e⟩:=Option.bind_eq_some_iff.mp e
  obtain ⟨r,e3,e⟩:=Option.map_eq_some_iff.mp e
  cases e
  refine ⟨B,E,xs,Xs,rs,E1,fr,cl,e1,fun vs H1 hl ⟨F,A,fr1⟩=>?_⟩
  obtain ⟨r1,A',fr2⟩:=fr1.looks hl e2
  exact ⟨ds,res,e3,by rw [List.append_nil];exact r1,fun v H' g q'=>q v H' (fr2.told g q')⟩
def dk (i:Nat) (f:bY):bY:=fun E=>match E[i]? with
  | some (.ow _)=>(f E).bind fun a=>(frz a.2 a.1).bind fun b=>match b.2[i]? with
    | some (.ow ds)=>if ds.length < 1000000 then some (.sh .none,b.2.set i (.ow (ds++[b.1]))) else none
    | _=>none
  | _=>none
section
variable {X:Cx} {e:Expr} {m1:Bool} {f:bY} {x:Str} {p apos cpos:Pos}
theorem gL (i:Nat) (he:EX X e m1 f) (hN:X.N[i]? =some x:=by rfl) (hv:vR X.env.scope x:=by first | exact Or.inl rfl | exact Or.inr (Or.inl rfl) | exact Or.inr (Or.inr rfl)) (hd:(x == ("__debug__":Str))=false:=by decide) (hcd:(x == ("__classdict__":Str))=false:=by decide)
    (hs:starEach [e] X.env=[(false,eval e X.env)]:=by rfl) (hbase:attributeBase (.Name x p) "append" X.env (eval (.Name x p) X.env)=eval (.Name x p) X.env:=by rfl)
    (hfew:((backTo cpos (starEach [e] X.env)).all (fun x=> !x.1)&&(backToKw cpos (keywordEach [] X.env)).all (fun x=>x.1.isSome)
      &&decide (([e]:List Expr).length+([]:List Keyword).length+(if ([]:List Keyword).isEmpty then 0 else 1) < 30))=true:=by rfl) (hline:(apos.endLine == cpos.line)=true:=by rfl):
    EX X (.Call (.Attribute (.Name x p) "append" apos) [e] [] cpos) true (dk i f):=by
  refine bq (q9 PySem.F.plainAttrs_list PySem.F.slot_list_append PySem.F.type_list_append kL (jB hN hv hd hcd) (bi he cQ hs) hbase hfew hline hs rfl) fun σ H Q z=>?_
  obtain ⟨B,E,xs,Xs,res,E',⟨F,A,fr⟩,cl,e,q⟩:=z
  unfold dk at e
  split at e
  · rename_i ds0 ei
    obtain ⟨⟨s,E1⟩,e1,e⟩:=Option.bind_eq_some_iff.mp e
    obtain ⟨⟨d,E2⟩,e2,e⟩:=Option.bind_eq_some_iff.mp e
    simp only at e
    split at e
    · rename_i ds ei2
      split at e
      · rename_i hl
        cases e
        obtain ⟨o,A1,eo,l,vs,rfl,rfl,hl0,_⟩:=fr.var ei
        refine ⟨_,eo, .inl ⟨rfl,_,SqL.of hl0⟩,B,E,xs,Xs,s,E1,⟨F,A,fr⟩,fun _=>cl rfl,e1,fun v H1 ⟨F1,A1,fr1⟩=>?_⟩
        obtain ⟨F2,A2,fr2⟩:=fr1.frz0 e2
        obtain ⟨v',A3,ev,rfl,w,ew,rv⟩:=fr2.ext (k:=0) rfl
        cases ev;cases ew
        obtain ⟨A4,fr3⟩:=fr2.pop
        obtain ⟨l',vs',eo',hl',r',put⟩:=fr3.mut ei2 (cl rfl)
        rw [eo] at eo'
        cases eo'
        have ll:=r'.len
        have fr4:=put (vs'++[v]) (ds++[d]) (r'.snoc rv)
        exact ⟨l,vs',v,rfl,rfl,hl',o0 (by omega),q _ _ ⟨_,_,fr4.push ⟨rfl,_,rfl, .non⟩⟩⟩
      · cases e
    · cases e
  · cases e
end
def rO (s:Sl):Sl:=match s.val with
  | some d=> .sh d
  | none=> .no
def frzAll (E:List Sl):List Sl:=E.map rO
def settle (E:List Sl):Sl→Option (Sl×List Sl)
  | .al i=>(frz E (.al i)).map fun a=>(.sh a.1,a.2)
  | .br d=>if aO d then some (.sh d,E) else some (.sh d,frzAll E)
  | s=>some (s,E)
def az (g h:bP):bP:=fun E=>(g E).bind fun a=>match a.2 with
  | .nx=>h a.1
  | fl=>some (a.1,fl)
def aM:bP:=fun E=>some (E, .nx)
def fm (f:bY):bP:=fun E=>(f E).map fun a=>(a.2, .nx)
def aD (f:bY):bP:=fun E=>(f E).bind fun a=>match a.1 with
  | .al i=>(a.2[i]?).map fun s=>(a.2.set i .no, .rt s)
  | s=>some (a.2, .rt s)
def bn (c:kO) (g h:bP):bP:=fun E=>(c E).bind fun a=>if a.1 then g a.2 else h a.2
def aH (i:Nat) (f:bY):bP:=fun E=>(f E).bind fun a=>(settle a.2 a.1).bind fun b=>if i < b.2.length then some (b.2.set i b.1, .nx) else none
section
variable {K:PySem.W.Frag} {B F:Hp} {A:List Addr} {σ:iC} {H:Hp} {E E':List Sl} {xs:List V} {Xs:List Sl} {v:V} {s s':Sl} {d:PyData}
theorem FrF.frzAll (h:FrF K B F A σ H E xs Xs) (hX:Xs=[]):FrF K B H [] σ H (PL.frzAll E) [] []:=by
  subst hX
  have hx:xs=[]:=by simpa using h.len
  subst hx
  refine ⟨h.bf.trans h.fh,Same.refl _,iI H,?_,List.nodup_nil,fun a ha=>(by cases ha),rfl,fun s hs=>?_⟩
  · have key:∀{os:List (Option V)} {ss:List Sl} {C:List Addr},SAll (SlOk K F H σ) os ss C→SAll (SlOk K H H σ) os (PL.frzAll ss) []:=fun {os ss C} r=>by
      induction r with
      | nil=>exact .nil
      | cons q _ ih=>
        refine .cons (A:=[]) ?_ ih
        unfold rO
        split
        · rename_i d e
          obtain ⟨v,rfl,r,_⟩:=q.val h.fh e
          exact ⟨rfl,v,rfl,r⟩
        · exact rfl
    exact key h.sl
  · obtain ⟨t,_,rfl⟩:=List.mem_map.mp hs
    unfold rO
    split <;> rfl
theorem FrF.settle (h:FrF K B F A σ H E (v::xs) (s::Xs)) (hX:Xs=[]) (q:PL.settle E s=some (s',E')):s'.isAl=false∧Frm K B σ H E' (v::xs) (s'::Xs):=by
  cases s with
  | al i=>
    obtain ⟨⟨d,E2⟩,e,z⟩:=Option.map_eq_some_iff.mp (show (frz E (.al i)).map (fun a=>(Sl.sh a.1,a.2))=some (s',E') from q)
    cases z
    obtain ⟨F',A',h'⟩:=h.frz0 e
    exact ⟨rfl,F',A',h'⟩
  | br d=>
    have r:=(h.look0 (d:=d) rfl).1
    obtain ⟨A',h'⟩:=h.pop
    simp only [PL.settle] at q
    split at q
    · rename_i hf
      cases q
      exact ⟨rfl,F,A',h'.push ⟨rfl,v,rfl,h.cold r hf⟩⟩
    · cases q
      have h2:=h'.frzAll hX
      have hl:=h'.len
      subst hX
      have hx:xs=[]:=by simpa using hl
      subst hx
      exact ⟨rfl,H,[],h2.push ⟨rfl,v,rfl,r⟩⟩
  | no=>cases q;exact ⟨rfl,F,A,h⟩
  | sh d=>cases q;exact ⟨rfl,F,A,h⟩
  | ow ds=>cases q;exact ⟨rfl,F,A,h⟩
  | od kvs=>cases q;exact ⟨rfl,F,A,h⟩
  | tx ps=>cases q;exact ⟨rfl,F,A,h⟩
theorem FrF.move {i:Nat} (h:FrF K B F A σ H E (v::xs) (.al i::Xs)) (e:E[i]? =some s):Frm K B σ H (E.set i .no) (v::xs) (s::Xs):=by
  obtain ⟨v',A1,ev,rfl,w,ew,hw⟩:=h.ext (k:=0) rfl
  cases ev;cases ew
  obtain ⟨A',h'⟩:=h.pop
  obtain ⟨o,A0,A1,A2,eA,eo,hp,put⟩:=h'.sl.at (k:=Xs.length+i) (s:=s) (by rw [List.getElem?_append_right (by omega)];simpa using e)
  have z:=put (SlOk K F H σ) o .no [] rfl fun _ _ _ _ _ q=>q
  have e3:(Xs++E).set (Xs.length+i) .no=Xs++E.set i .no:=by
    rw [List.set_append_right _ _ (by omega),Nat.add_sub_cancel_left]
  have e2:(List.map some xs++σ).set (Xs.length+i) o=List.map some xs++σ:=List.ext_getElem? fun j=>by
    by_cases hj:Xs.length+i=j
    · subst hj
      rw [List.getElem?_set_self',eo];rfl
    · rw [List.getElem?_set_ne hj]
  rw [e2,e3] at z
  rw [List.getElem?_append_right (by rw [List.length_map,h'.len];omega),List.length_map,h'.len,Nat.add_sub_cancel_left,hw] at eo
  cases eo
  have nd:=h'.nd
  rw [eA] at nd
  refine ⟨F,A1++(A0++([]++A2)),h.bf,h.fh,h.tf, .cons hp z,?_,fun a ha=>h'.fr a ?_,h.len,fun s' hs=>?_⟩
  · have p:(A1++(A0++([]++A2))).Perm (A0++(A1++A2)):=by
      rw [List.nil_append,←List.append_assoc,←List.append_assoc]
      exact List.Perm.append_right _ List.perm_append_comm
    exact p.nodup_iff.mpr nd
  · rw [eA]
    simp only [List.mem_append,List.nil_append] at ha ⊢
    rcases ha with z | z | z
    · exact .inr (.inl z)
    · exact .inl z
    · exact .inr (.inr z)
  · rcases List.mem_or_eq_of_mem_set hs with hs | hs
    · exact h.pl s' hs
    · subst hs;rfl
end
section
variable {X:Cx} {st:Stmt} {bD a b:List Stmt} {g h:bP} {e c:Expr} {m:Bool} {f:bY} {t:kO} {pos:Pos}
theorem be:qz X [] aM:=oZ tV fun D σ H z=>by
  obtain ⟨B,E,xs,Xs,E',fl,fr,cl,e,q⟩:=z
  cases e
  exact q _ _ fr
theorem av (h1:SX X st g):qz X [st] g:=gH h1
theorem wE {K:PySem.W.Frag} {D:Ends} {σ:iC} {H:Hp} (z:rs K (az g h) D σ H):rs K g {D with nx:=rs K h D} σ H:=by
  obtain ⟨B,E,xs,Xs,E',fl,fr,cl,e,q⟩:=z
  obtain ⟨⟨E1,f1⟩,e1,e⟩:=Option.bind_eq_some_iff.mp e
  refine ⟨B,E,xs,Xs,E1,f1,fr,cl,e1,?_⟩
  cases f1 with
  | nx=>exact fun σ' H' fr'=>⟨B,E1,xs,Xs,E',fl,fr',cl,e,q⟩
  | bk=>cases e;exact q
  | ct=>cases e;exact q
  | rt r=>cases e;exact q
theorem ao (h1:SX X st g) (h2:qz X bD h):qz X (st::bD) (az g h):=oZ (cD h1 h2) fun D σ H z=>wE z
theorem gM (he:EX X e m f) (hs:swapsWith e none pos.line X.env=pure false:=by rfl):SX X (.Expr e pos) (fm f):=gX (tW he hs) fun D σ H z=>by
  obtain ⟨B,E,xs,Xs,E',fl,fr,cl,e,q⟩:=z
  obtain ⟨⟨s,E1⟩,e1,e⟩:=Option.map_eq_some_iff.mp e
  cases e
  refine ⟨B,E,xs,Xs,s,E1,fr,fun _=>Calm.nil cl,e1,fun v H1 ⟨F,A,fr1⟩=>?_⟩
  obtain ⟨A',fr2⟩:=fr1.pop
  exact q _ _ ⟨F,A',fr2⟩
theorem aE (he:EX X e m f):SX X (.Return (some e) pos) (aD f):=gX (qG he) fun D σ H z=>by
  obtain ⟨B,E,xs,Xs,E',fl,fr,cl,e,q⟩:=z
  obtain ⟨⟨s,E1⟩,e1,e⟩:=Option.bind_eq_some_iff.mp e
  refine ⟨B,E,xs,Xs,s,E1,fr,fun _=>Calm.nil cl,e1,fun v H1 ⟨F,A,fr1⟩=>?_⟩
  simp only at e
  split at e
  · obtain ⟨s',es,e⟩:=Option.map_eq_some_iff.mp e
    cases e
    exact q σ _ _ (fr1.move es)
  · cases e
    exact q σ _ _ ⟨F,A,fr1⟩
theorem cN (hc:TX X c m t) (ha:qz X a g) (hb:qz X b h):SX X (.If c a b pos) (bn t g h):=gX (xN hc ha hb) fun D σ H z=>by
  obtain ⟨B,E,xs,Xs,E',fl,fr,cl,e,q⟩:=z
  obtain ⟨⟨b1,E1⟩,e1,e⟩:=Option.bind_eq_some_iff.mp e
  refine ⟨B,E,xs,Xs,b1,E1,fr,fun _=>Calm.nil cl,e1,fun H1 fr1=>?_⟩
  cases b1 with
  | true=>exact (if_pos rfl).mpr ⟨B,E1,xs,Xs,E',fl,fr1,cl,e,q⟩
  | false=>exact (if_neg (by decide)).mpr ⟨B,E1,xs,Xs,E',fl,fr1,cl,e,q⟩
theorem aV (i:Nat) {x:Str} {pos':Pos} (hN:X.N.Nodup) (he:EX X e m f) (hi:X.N[i]? =some x:=by rfl) (hx:vS X.env.scope x:=by first | exact Or.inl rfl | exact Or.inr rfl) (hs:swapsWith e (some (.Name x pos')) pos.line X.env=pure false:=by rfl) (hf:X.fn x=true∨X.env.scope.names.lookup x=some .local:=by first | exact .inl rfl | exact .inr rfl | assumption):
    SX X (.Assign [.Name x pos'] e pos) (aH i f):=gX (qJ hN hi hx he hs hf) fun D σ H z=>by
  obtain ⟨B,E,xs,Xs,E',fl,fr,cl,e,q⟩:=z
  obtain ⟨⟨s,E1⟩,e1,e⟩:=Option.bind_eq_some_iff.mp e
  obtain ⟨⟨s',E2⟩,e2,e⟩:=Option.bind_eq_some_iff.mp e
  refine ⟨B,E,xs,Xs,s,E1,fr,fun _=>Calm.nil cl,e1,fun v H1 ⟨F,A,fr1⟩=>?_⟩
  obtain ⟨c1,F2,A2,fr2⟩:=fr1.settle cl e2
  simp only at e
  split at e
  · rename_i hi
    cases e
    obtain ⟨A3,fr3⟩:=fr2.store c1 (Still.nil cl) hi
    exact q _ _ ⟨F2,A3,fr3⟩
  · cases e
end
end PL
namespace PL
open PySem L2 Nh
abbrev i7:=PyData→List Sl→Option (List Sl)
abbrev mY:=List PyData→List Sl→Option (List Sl)
def rg (K:PySem.W.Frag) (h:i7):TG:=fun v σ H Q=>∃B E xs Xs d E',Frm K B σ H E (v::xs) (.sh d::Xs)∧Still Xs∧h d E=some E'∧∀σ' H',Frm K B σ' H' E' xs Xs→Q σ' H'
def Aj (K:PySem.W.Frag) (h:mY):tX:=fun vs σ H Q=>∃B E xs Xs ds E',vs.length=ds.length∧Frm K B σ H E (vs++xs) (ds.map .sh++Xs)∧Still Xs∧h ds E=some E'∧∀σ' H',Frm K B σ' H' E' xs Xs→Q σ' H'
def GX (X:Cx) (e:Expr) (h:i7):Prop:=PG X e (rg X.K h)
def yS (X:Cx) (es:List Expr) (h:mY):Prop:=vY X es (Aj X.K h)
def bt (i:Nat):i7:=fun d E=>if i < E.length then some (E.set i (.sh d)) else none
def gj:mY:=fun ds E=>if ds.isEmpty then some E else none
def cq (h:i7) (hs:mY):mY:=fun ds E=>match ds with
  | d::ds=>(h d E).bind (hs ds)
  | []=>none
def gk (n:Nat) (hs:mY):i7:=fun d E=>match d with
  | .tuple ds=>if ds.length=n then hs ds E else none
  | _=>none
section
variable {X:Cx}
theorem rP {e:Expr} {t t':TG} (h:PG X e t) (k:∀v σ H Q,t' v σ H Q→t v σ H Q):PG X e t':=fun pins s σ H v u Q I r q=>h pins s σ H v u Q I r (k v σ H Q q)
theorem o9 {es:List Expr} {t t':tX} (h:vY X es t) (k:∀v σ H Q,t' v σ H Q→t v σ H Q):vY X es t':=fun pins s σ H v u Q I r q=>h pins s σ H v u Q I r (k v σ H Q q)
theorem bJ (i:Nat) {x:Str} {pos:Pos} (hN:X.N.Nodup) (hi:X.N[i]? =some x:=by rfl) (hx:vS X.env.scope x:=by first | exact Or.inl rfl | exact Or.inr rfl) (hf:X.fn x=true∨X.env.scope.names.lookup x=some .local:=by first | exact .inl rfl | exact .inr rfl | assumption):GX X (.Name x pos) (bt i):=rP (lv hN hi hx hf) fun v σ H Q z=>by
  obtain ⟨B,E,xs,Xs,d,E',⟨F,A,fr⟩,cl,e,q⟩:=z
  unfold bt at e
  split at e
  · rename_i hi
    cases e
    obtain ⟨A',fr'⟩:=fr.store rfl cl hi
    exact q _ _ ⟨F,A',fr'⟩
  · cases e
theorem fU:yS X [] gj:=o9 tY fun v σ H Q z=>by
  obtain ⟨B,E,xs,Xs,ds,E',hl,fr,cl,e,q⟩:=z
  unfold gj at e
  split at e
  · rename_i hd
    cases e
    have:ds=[]:=by simpa using hd
    subst this
    have hv:v=[]:=by simpa using hl
    subst hv
    exact ⟨rfl,q _ _ fr⟩
  · cases e
theorem bQ {e:Expr} {es:List Expr} {h:i7} {hs:mY} (h1:GX X e h) (h2:yS X es hs) (hst:(assignEach (e::es) X.env).map (·.2)=assign e X.env::(assignEach es X.env).map (·.2):=by rfl):yS X (e::es) (cq h hs):=o9 (qI h1 h2 hst) fun v σ H Q z=>by
  obtain ⟨B,E,xs,Xs,ds,E',hl,fr,cl,e,q⟩:=z
  cases ds with
  | nil=>cases e
  | cons d ds=>
    cases v with
    | nil=>cases hl
    | cons v vs=>
      obtain ⟨E1,e1,e2⟩:=Option.bind_eq_some_iff.mp e
      refine ⟨v,vs,rfl,B,E,vs++xs,ds.map Sl.sh++Xs,d,E1,fr,fun s hs=>?_,e1,fun σ1 H1 fr1=>⟨B,E1,xs,Xs,ds,E',by simpa using hl,fr1,cl,e2,q⟩⟩
      rcases List.mem_append.mp hs with hs | hs
      · obtain ⟨d',_,rfl⟩:=List.mem_map.mp hs
        rfl
      · exact cl s hs
theorem gZ {es:List Expr} {k:Nat} {pos:Pos} {hs:mY} {n:Nat} (hc:X.calm=true) (h:yS X es hs) (hn:(assignEach es X.env).length=n:=by rfl) (hst:(assignEach es X.env).findIdx? (·.1)=none:=by rfl):GX X (.Tuple es k pos) (gk n hs):=rP (v0 hc h hn hst) fun v σ H Q z=>by
  obtain ⟨B,E,xs,Xs,d,E',⟨F,A,fr⟩,cl,e,q⟩:=z
  unfold gk at e
  split at e
  · rename_i ds
    split at e
    · rename_i hl
      obtain ⟨v',A1,ev,rfl,w,ew,r⟩:=fr.ext (k:=0) rfl
      cases ev;cases ew
      cases r with
      | tup h1 h2=>
        obtain ⟨A',fr'⟩:=fr.pop
        have key:∀{us:List V} {es:List PyData},RpA X.K F us es→FrF X.K B F A' σ H E (us++xs) (es.map .sh++Xs):=fun {us es} r=>by
          induction us generalizing es with
          | nil=>cases r;exact fr'
          | cons u us ih=>
            cases r with
            | cons r1 r2=>exact (ih r2).push ⟨rfl,_,rfl,r1⟩
        exact ⟨_,_,rfl,fr.fh.tup h1,by rw [h2.len];exact hl,B,E,xs,Xs,ds,E',h2.len,⟨F,A',key h2⟩,cl,e,q⟩
    · cases e
  · cases e
end
def mZ (K:PySem.W.Frag) (B0:Hp) (J:It) (ds:List PyData):Prop:=∀{B F:Hp} {A:List Addr} {σ:iC} {H:Hp} {E:List Sl} {xs:List V} {Xs:List Sl} (i:Nat),Same B0 B→FrF K B F A σ H E xs Xs→
  (∀d,ds[i]? =some d→J.go i H∧∀x H2,J.yld i H x H2→Frm K B σ H2 E (x::xs) (.sh d::Xs))∧(i=ds.length→J.stop i H)
def ri (K:PySem.W.Frag) (m:Bool) (f:jK):TI:=fun σ H R=>∃B E xs Xs ds E',Frm K B σ H E xs Xs∧(m=true→Calm Xs)∧f E=some (ds,E')∧∀B' J H',Same B B'→Frm K B' σ H' E' xs Xs→mZ K B' J ds→R J H'
def IX (X:Cx) (tg e:Expr) (m:Bool) (f:jK):Prop:=PI X tg e (ri X.K m f)
theorem FrF.base {K:PySem.W.Frag} {B B' F:Hp} {A:List Addr} {σ:iC} {H:Hp} {E:List Sl} {xs:List V} {Xs:List Sl} (h:FrF K B' F A σ H E xs Xs) (s:Same B B'):FrF K B F A σ H E xs Xs:=⟨s.trans h.bf,h.fh,h.tf,h.sl,h.nd,h.fr,h.len,h.pl⟩
theorem Frm.base {K:PySem.W.Frag} {B B':Hp} {σ:iC} {H:Hp} {E:List Sl} {xs:List V} {Xs:List Sl} (h:Frm K B' σ H E xs Xs) (s:Same B B'):Frm K B σ H E xs Xs:=let ⟨F,A,h⟩:=h;⟨F,A,h.base s⟩
theorem FrF.raise {K:PySem.W.Frag} {B F:Hp} {A:List Addr} {σ:iC} {H:Hp} {E:List Sl} {xs:List V} {Xs:List Sl} (h:FrF K B F A σ H E xs Xs):FrF K F F A σ H E xs Xs:=⟨Same.refl _,h.fh,h.tf,h.sl,h.nd,h.fr,h.len,h.pl⟩
def jR (lo:Int) (n:Nat):List PyData:=(List.range n).map fun (k:Nat)=> .int (lo+(k:Int))
def iM (g:kP):jK:=fun E=>(g E).bind fun a=>match aF a.2 a.1 with
  | some [.int j]=>if -1000000≤j∧j≤1000000 then some (jR 0 j.toNat,a.2) else none
  | _=>none
def m6 (f:bY):jK:=fun E=>(f E).bind fun a=>(frz a.2 a.1).bind fun b=>match b.1 with
  | .list ds=>some (ds.reverse,b.2)
  | _=>none
section
variable {X:Cx} {tg e e2:Expr} {m:Bool} {f:bY} {g:kP} {p pos:Pos} {K:PySem.W.Frag} {B:Hp}
theorem lR {t t':TI} (h:PI X tg e t) (k:∀σ H Q,t' σ H Q→t σ H Q):PI X tg e t':=fun pins s σ H R I q=>h pins s σ H R I (k σ H R q)
theorem pX {a:Addr} {vs:List V} {ds:List PyData} (h:SqL K B a vs) (r:RpA K B vs ds):mZ K B (xB K a) ds:=fun {B' F A σ H E xs Xs} i sB fr=>by
  have hH:=fr.fh.seq (fr.bf.seq (sB.seq h))
  refine ⟨fun d ed=>?_,fun e=>⟨vs,hH,by rw [e,r.len];exact Nat.le_refl _⟩⟩
  obtain ⟨v,ev,rv⟩:=r.get ed
  refine ⟨⟨vs,v,hH,ev⟩,fun x H2 ⟨e2,y⟩=>?_⟩
  subst e2
  have:=y vs hH
  rw [ev] at this
  cases this
  exact ⟨F,A,fr.push ⟨rfl,_,rfl,rv.same (sB.trans fr.bf)⟩⟩
theorem rQ {a:Addr} {vs:List V} {ds:List PyData} (h:SqL K B a vs) (r:RpA K B vs ds):mZ K B (zj K a vs) ds.reverse:=fun {B' F A σ H E xs Xs} i sB fr=>by
  have hH:=fr.fh.seq (fr.bf.seq (sB.seq h))
  refine ⟨fun d ed=>?_,fun e=>⟨hH,by rw [e,List.length_reverse,r.len]⟩⟩
  obtain ⟨v,ev,rv⟩:=r.rev.get ed
  have hi:i < vs.length:=by
    have:=(List.getElem?_eq_some_iff.mp ev).1
    simpa using this
  refine ⟨⟨hH,hi⟩,fun x H2 ⟨e2,y⟩=>?_⟩
  subst e2
  rw [ev] at y
  cases y
  exact ⟨F,A,fr.push ⟨rfl,_,rfl,rv.same (sB.trans fr.bf)⟩⟩
theorem n6 {lo:Int} {n:Nat}:mZ K B (yO lo n) (jR lo n):=fun {B' F A σ H E xs Xs} i sB fr=>by
  have hl:(jR lo n).length=n:=by simp [jR]
  refine ⟨fun d ed=>?_,fun e=>?_⟩
  · have hi:i < n:=by have:=(List.getElem?_eq_some_iff.mp ed).1;omega
    refine ⟨hi,fun x H2 ⟨e2,y⟩=>?_⟩
    subst e2 y
    have:d= .int (lo+i):=by
      unfold jR at ed
      rw [List.getElem?_map,List.getElem?_range hi] at ed
      exact (Option.some.inj ed).symm
    subst this
    exact ⟨F,A,fr.push ⟨rfl,_,rfl, .int _⟩⟩
  · show n≤i
    omega
theorem rR (hg:Gl X "reversed") (hm:X.mg "reversed"=none) (he:EX X e m f) (hs:starEach [e] X.env=[(false,eval e X.env)]:=by rfl):IX X tg (.Call (.Name "reversed" p) [e] [] pos) m (m6 f):=lR (wo hg hm (bi he cQ hs) hs) fun σ H R z=>by
  obtain ⟨B,E,xs,Xs,ds,E',fr,cl,e,q⟩:=z
  obtain ⟨⟨s,E1⟩,e1,e⟩:=Option.bind_eq_some_iff.mp e
  obtain ⟨⟨d,E2⟩,e2,e⟩:=Option.bind_eq_some_iff.mp e
  refine ⟨B,E,xs,Xs,s,E1,fr,cl,e1,fun v H1 ⟨F,A,fr1⟩=>?_⟩
  obtain ⟨F2,A2,fr2⟩:=fr1.frz0 e2
  simp only at e
  split at e
  · cases e
    obtain ⟨v',A1,ev,rfl,w,ew,r⟩:=fr2.ext (k:=0) rfl
    cases ev;cases ew
    cases r with
    | lst h1 h2=>
      obtain ⟨A3,fr3⟩:=fr2.pop
      exact ⟨_,_,rfl,fr2.fh.seq h1,q F2 _ _ fr2.bf ⟨F2,A3,fr3.raise⟩ (rQ h1 h2)⟩
  · cases e
theorem kQ (hg:Gl X "range") (hm:X.mg "range"=none) (ha:AX X [e] m g) (hs:starEach [e] X.env=[(false,eval e X.env)]:=by rfl):IX X tg (.Call (.Name "range" p) [e] [] pos) m (iM g):=lR (pG hg hm ha hs) fun σ H R z=>by
  obtain ⟨B,E,xs,Xs,ds,E',fr,cl,e,q⟩:=z
  obtain ⟨⟨rs,E1⟩,e1,e⟩:=Option.bind_eq_some_iff.mp e
  refine ⟨B,E,xs,Xs,rs,E1,fr,cl,e1,fun vs H1 hl ⟨F,A,fr1⟩=>?_⟩
  simp only at e
  split at e
  · rename_i j ld
    split at e
    · rename_i hj
      cases e
      obtain ⟨r,A',fr2⟩:=fr1.looks hl ld
      obtain ⟨v,rfl,r'⟩:=r.one
      cases r'
      exact ⟨j,rfl,by omega,by omega,q B _ _ (Same.refl _) ⟨F,A',fr2⟩ n6⟩
    · cases e
  · cases e
end
def dl (tg:i7) (body:bP):List PyData→bP
  | [],E=>some (E, .nx)
  | d::ds,E=>((tg d E).bind body).bind fun a=>match a.2 with
    | .nx=>dl tg body ds a.1
    | .ct=>dl tg body ds a.1
    | .bk=>some (a.1, .nx)
    | .rt r=>some (a.1, .rt r)
def h7 (it:jK) (tg:i7) (body:bP):bP:=fun E=>(it E).bind fun a=>dl tg body a.1 a.2
theorem iN {X:Cx} {tg iter:Expr} {body:List Stmt} {m:Bool} {it:jK} {g:i7} {b:bP} {pos:Pos} (hp:PassesOwn (model X.prog X.w) X.A X.env X.xe) (hc:X.calm=true) (hi:IX X tg iter m it) (hg:GX X tg g) (hb:qz X body b)
    (hs:∀x,foldedSetIterable iter X.env x=pure x:=by intro _;rfl):SX X (.For tg iter body [] pos) (h7 it g b):=gX (v8 hp hc hi hg hb hs) fun D σ H z=>by
  obtain ⟨B,E,xs,Xs,E',fl,fr,cl,e,q⟩:=z
  obtain ⟨⟨ds,E1⟩,e1,e⟩:=Option.bind_eq_some_iff.mp e
  refine ⟨B,E,xs,Xs,ds,E1,fr,fun _=>Calm.nil cl,e1,fun B' J H1 hB fr1 ok=>?_⟩
  refine ⟨fun i mm σ' H'=>mm=ds.length - i∧i≤ds.length∧∃Ei,dl g b (ds.drop i) Ei=some (E',fl)∧Frm X.K B' σ' H' Ei xs Xs,⟨ds.length,by simp,Nat.zero_le _,E1,by simpa using e,fr1⟩,?_⟩
  rintro i mm σ' H' ⟨rfl,hi,Ei,ei,F,A,fri⟩
  obtain ⟨go,stop⟩:=ok i (Same.refl _) fri
  by_cases hlt:i < ds.length
  · obtain ⟨d,ed⟩:∃d,ds[i]? =some d:=⟨ds[i],List.getElem?_eq_getElem hlt⟩
    obtain ⟨g1,yl⟩:=go d ed
    have edr:ds.drop i=d::ds.drop (i+1):=by
      rw [List.drop_eq_getElem_cons hlt]
      congr 1
      exact Option.some.inj ((List.getElem?_eq_getElem hlt).symm.trans ed)
    rw [edr] at ei
    obtain ⟨⟨E2,f2⟩,e2,ei⟩:=Option.bind_eq_some_iff.mp ei
    obtain ⟨E3,e3,e2⟩:=Option.bind_eq_some_iff.mp e2
    refine .inr ⟨g1,fun σ2 H2=>∃Ej,dl g b (ds.drop (i+1)) Ej=some (E',fl)∧Frm X.K B' σ2 H2 Ej xs Xs,fun σ2 H2 ⟨Ej,ej,frj⟩=>⟨ds.length - (i+1),by omega,rfl,hlt,Ej,ej,frj⟩,fun x H2 y=>?_⟩
    refine ⟨B',Ei,xs,Xs,d,E3,yl x H2 y,Still.nil cl,e3,fun σ3 H3 fr3=>?_⟩
    refine ⟨B',E3,xs,Xs,E2,f2,fr3,cl,e2,?_⟩
    cases f2 with
    | nx=>exact fun σ4 H4 fr4=>⟨E2,ei,fr4⟩
    | ct=>exact fun σ4 H4 fr4=>⟨E2,ei,fr4⟩
    | bk=>cases ei;exact fun σ4 H4 fr4=>q _ _ (fr4.base hB)
    | rt r=>cases ei;exact fun σ4 v H4 fr4=>q _ _ _ (fr4.base hB)
  · have e0:i=ds.length:=by omega
    refine .inl ⟨stop e0,?_⟩
    rw [e0,List.drop_length] at ei
    cases ei
    exact q _ _ (Frm.base ⟨F,A,fri⟩ hB)
def ba:Sl→Bool
  | .sh d=>aO d
  | .ow ds=>aZ ds
  | .tx ps=>ps.all fun p=>match p with | .fl d=>aO d | .ol ds=>aZ ds
  | .od kvs=>kvs.all fun p=>aZ p.2
  | _=>false
def aI (n:Nat) (ds:List PyData):List Sl:=ds.map .sh++List.replicate (n - ds.length) .no
def cr (r:Sl):Option Sl:=if ba r then some r else match r with
  | .sh d=>some (.br d)
  | .ow ds=>some (.br (.list ds))
  | .tx ps=>some (.br (.tuple (ps.map Pt.val)))
  | .br d=>some (if aO d then .sh d else .br d)
  | _=>none
def cS (n:Nat) (g:bP):List PyData→Option Sl:=fun ds=>(g (aI n ds)).bind fun a=>match a.2 with
  | .rt r=>cr r
  | .nx=>some (.sh .none)
  | _=>none
section
variable {K:PySem.W.Frag} {B F:Hp} {A:List Addr} {σ:iC} {H:Hp} {E:List Sl} {v:V} {r:Sl}
theorem DlOk.cold {F H:Hp} (sF:Same F H):∀{us:List (dG×V)} {kvs:List (dG×List PyData)} {A:List Addr},(∀p∈kvs,aZ p.2=true)→DlOk K F H us kvs A→DlOk K (tups H) H us kvs A
  | [],[],A,_,h=>h
  | p::us,q::kvs,A,c,h=>by
    obtain ⟨l,vs,A',rfl,rfl,hl,hr,k⟩:=h
    exact ⟨l,vs,A',rfl,rfl,hl,(hr.same sF).cold (c q (List.mem_cons_self ..)),DlOk.cold sF (fun p hp=>c p (List.mem_cons_of_mem _ hp)) k⟩
  | [],_::_,_,_,h=>False.elim h
  | _::_,[],_,_,h=>False.elim h
theorem PtsOk.cold {F H G:Hp} (sF:Same F H) (tG:∀{v:V} {d:PyData},Rp K F v d→aO d=true→Rp K G v d):∀{vs:List V} {ps:List Pt} {A:List Addr},(∀p∈ps,(match p with | .fl d=>aO d | .ol ds=>aZ ds)=true)→PtsOk K F H vs ps A→PtsOk K G H vs ps A
  | [],[],A,_,h=>h
  | v::vs, .fl d::ps,A,c,h=>⟨tG h.1 (c (.fl d) (List.mem_cons_self ..)),PtsOk.cold sF tG (fun p hp=>c p (List.mem_cons_of_mem _ hp)) h.2⟩
  | v::vs, .ol ds::ps,A,c,h=>by
    obtain ⟨l,us,A',rfl,rfl,hl,hr,q⟩:=h
    refine ⟨l,us,A',rfl,rfl,hl,?_,q.cold sF tG fun p hp=>c p (List.mem_cons_of_mem _ hp)⟩
    have cd:aZ ds=true:=c (.ol ds) (List.mem_cons_self ..)
    have key:∀{us:List V} {ds:List PyData},RpA K F us ds→aZ ds=true→RpA K G us ds:=fun {us ds} r c=>by
      induction us generalizing ds with
      | nil=>cases r;exact .nil
      | cons u us ih=>
        cases r with
        | cons r1 r2=>
          simp only [aZ,Bool.and_eq_true] at c
          exact .cons (tG r1 c.1) (ih r2 c.2)
    exact key hr cd
  | [],_::_,_,_,h=>False.elim h
  | _::_,[],_,_,h=>False.elim h
theorem FrF.result (h:FrF K B F A σ H E [v] [r]) (c:ba r=true):Same B H∧i6 K B H v r:=by
  refine ⟨h.bf.trans h.fh,?_⟩
  have nB:∀a,F a=none→B a=none:=fun a e=>h.bf.free e
  have cold:∀{v:V} {d:PyData},Rp K F v d→aO d=true→Rp K (tups H) v d:=fun r f=>(r.same h.fh).cold f
  obtain ⟨v',A1,ev,hs⟩:=h.ext (k:=0) rfl
  cases ev
  obtain ⟨o,C0,C1,C2,eA,eo,hp,_⟩:=h.sl.at (k:=0) (s:=r) rfl
  cases eo
  have sub:∀a∈C1,F a=none:=fun a ha=>h.fr a (by rw [eA];simp [ha])
  have nd:C1.Nodup:=by
    have:=h.nd
    rw [eA] at this
    exact (List.nodup_append.mp (List.nodup_append.mp this).2.1).1
  cases r with
  | sh d=>obtain ⟨_,w,ew,r⟩:=hp;cases ew;exact cold r c
  | ow ds=>
    obtain ⟨l,vs,el,rfl,hl,r⟩:=hp
    cases el
    exact ⟨l,vs,rfl,nB l (sub l (by simp)),hl,(r.same h.fh).cold c⟩
  | tx ps=>
    obtain ⟨t,vs,et,ht,r⟩:=hp
    cases et
    exact ⟨t,vs,C1,rfl,dN (h.fh _ _ ht) rfl,nd,fun a ha=>nB a (sub a ha),r.cold h.fh cold (by simpa [ba,List.all_eq_true] using c)⟩
  | no=>cases c
  | od kvs=>
    obtain ⟨l,us,A',el,rfl,hl,r⟩:=hp
    cases el
    exact ⟨l,us,A',rfl,nd,fun a ha=>nB a (sub a ha),hl,r.cold h.fh (by simpa [ba,List.all_eq_true] using c)⟩
  | al i=>cases c
  | br d=>cases c
theorem FrF.resultO {r':Sl} (h:FrF K B F A σ H E [v] [r]) (c:cr r=some r'):Same B H∧i6 K B H v r':=by
  unfold cr at c
  split at c
  · rename_i hc
    cases c
    exact h.result hc
  · refine ⟨h.bf.trans h.fh,?_⟩
    cases r with
    | sh d=>cases c;exact (h.look0 (d:=d) rfl).1
    | ow ds=>cases c;exact (h.look0 (d:= .list ds) rfl).1
    | tx ps=>cases c;exact (h.look0 (d:= .tuple (ps.map Pt.val)) rfl).1
    | br d=>
      have r:=(h.look0 (d:=d) rfl).1
      simp only at c
      split at c
      · rename_i hf
        cases c
        exact r.cold hf
      · cases c
        exact r
    | no=>cases c
    | od kvs=>cases c
    | al i=>cases c
theorem jq {N:List Str} {vs:List V} {ds:List PyData} (r:RpA K H vs ds) (hn:ds.length≤N.length):FrF K H H [] (L2.cy N vs) H (aI N.length ds) [] []:=by
  refine ⟨Same.refl _,Same.refl _,iI H,?_,List.nodup_nil,fun a ha=>(by cases ha),rfl,?_⟩
  · have l:=r.len
    unfold L2.cy aI
    rw [l]
    generalize N.length - ds.length=k
    have base:∀τ:iC,SAll (SlOk K H H τ) (List.replicate k none) (List.replicate k .no) []:=fun τ=>by
      induction k with
      | zero=>exact .nil
      | succ k ih=>exact .cons (A:=[]) rfl ih
    have key:∀(τ:iC) {us:List V} {es:List PyData},RpA K H us es→SAll (SlOk K H H τ) (us.map some++List.replicate k none) (es.map .sh++List.replicate k .no) []:=fun τ us es r=>by
      induction us generalizing es with
      | nil=>cases r;exact base τ
      | cons u us ih=>
        cases r with
        | cons r1 r2=>exact .cons (A:=[]) ⟨rfl,_,rfl,r1⟩ (ih _ r2)
    exact key _ r
  · intro s hs
    unfold aI at hs
    rcases List.mem_append.mp hs with hs | hs
    · obtain ⟨d,_,rfl⟩:=List.mem_map.mp hs
      rfl
    · rw [(List.mem_replicate.mp hs).2]
      rfl
end
def cO (k n:Nat) (g:bP):List PyData→Option Sl:=fun ds=>if ds.length=k then cS n g ds else none
theorem g3 {P:Program} {w:World} {K:PySem.W.Frag} {mg:Str→Option Value} {base:Heap} {x:Str} {st:Stmt} {N ps:List Str} {k a n:Nat} {g:bP} (D:Def K mg x st ps) (S:FnScope N ps (aj st)) (hpa:ps.length=a) (hNn:N.length=n) (hps:a≤n)
    (hbody:∀(f:Addr) (cdv:Value) (A:Around) (outer:List Env) (s:Shared) (H:Hp) (E:XK),Room k (A.deeper (PyProof.Rows.envOfC x (aj st) s.heap.objs.size f cdv))→
      qz (gq gT P w K mg base N x (aj st) f cdv A outer s H E).nox (bj st) g):Own P w K mg base (k+1) x ps (dh K (cO a n g)):=by
  subst hpa hNn
  refine D.own S (fun vs H Q E h=>?_) (fun f cdv A outer s H vs Q E hr h=>?_)
  · obtain ⟨ds,r,e,rp,_⟩:=h
    unfold cO at e
    split at e
    · rename_i hl
      rw [rp.len];exact hl
    · cases e
  obtain ⟨ds,r,e,rp,q⟩:=h
  unfold cO at e
  split at e
  · rename_i hl
    refine ⟨_,hbody f cdv A outer s H E hr,?_⟩
    obtain ⟨⟨E',fl⟩,e1,e⟩:=Option.bind_eq_some_iff.mp e
    refine ⟨H,aI N.length ds,[],[],E',fl,⟨H,[],jq rp (by omega)⟩,rfl,e1,?_⟩
    cases fl with
    | nx=>
      cases e
      rintro σ' H' ⟨F',A',fr'⟩
      exact q _ _ (fr'.bf.trans fr'.fh) .non
    | bk=>cases e
    | ct=>cases e
    | rt r'=>
      rintro σ' v H' ⟨F',A',fr'⟩
      obtain ⟨s1,s2⟩:=fr'.resultO e
      exact q v H' s1 s2
  · cases e
theorem Ak {P:Program} {w:World} {K:PySem.W.Frag} {mg:Str→Option Value} {base:Heap} {x:Str} {st:Stmt} {N ps:List Str} {k a n:Nat} {g:bP} {f0:Addr} {fd:FuncData} (D:Fun K x x st f0 fd) (S:FnScope N ps (aj st)) (hpa:ps.length=a) (hNn:N.length=n) (hps:a≤n)
    (hbody:∀(cdv:Value) (A:Around) (outer:List Env) (s:Shared) (H:Hp) (E:XK),Room k (A.deeper (PyProof.Rows.envOfC x (aj st) s.heap.objs.size f0 cdv))→
      qz (gq gT P w K mg base N x (aj st) f0 cdv A outer s H E).nox (bj st) g):FnOk P w K mg base gT (k+1) f0 fd ps (dh K (cO a n g)):=by
  subst hpa hNn
  refine D.ok S (fun vs H Q E h=>?_) (fun cdv A outer s H vs Q E hr h=>?_)
  · obtain ⟨ds,r,e,rp,_⟩:=h
    unfold cO at e
    split at e
    · rename_i hl
      rw [rp.len];exact hl
    · cases e
  obtain ⟨ds,r,e,rp,q⟩:=h
  unfold cO at e
  split at e
  · rename_i hl
    refine ⟨_,hbody cdv A outer s H E hr,?_⟩
    obtain ⟨⟨E',fl⟩,e1,e⟩:=Option.bind_eq_some_iff.mp e
    refine ⟨H,aI N.length ds,[],[],E',fl,⟨H,[],jq rp (by omega)⟩,rfl,e1,?_⟩
    cases fl with
    | nx=>
      cases e
      rintro σ' H' ⟨F',A',fr'⟩
      exact q _ _ (fr'.bf.trans fr'.fh) .non
    | bk=>cases e
    | ct=>cases e
    | rt r'=>
      rintro σ' v H' ⟨F',A',fr'⟩
      obtain ⟨s1,s2⟩:=fr'.resultO e
      exact q v H' s1 s2
  · cases e
theorem kR {K:PySem.W.Frag} {H:Hp}:∀ns:List Int,RpA K H (ns.map V.int) (ns.map PyData.int)
  | []=> .nil
  | n::ns=> .cons (.int n) (kR ns)
theorem wF {K:PySem.W.Frag} {H:Hp} {a:Addr} {ns:List Int} {c:List PyData→Option Sl} (e:c [.list (ns.map .int)]=some (.sh (.bool true))) (h:SqL K H a (ns.map V.int)):dh K c [.ref a] H (fun v _=>v= .bl true) fun _ _ _=>False:=
  ⟨_,_,e, .cons (.lst h (kR ns)) .nil,fun v H' _ r=>by
    have r':Rp K (tups H') v (.bool true):=r
    cases r'
    rfl⟩
end PL
namespace PL
open PySem L2 Nh
def jS (E:List Sl):Option Nat→Sl
  | none=> .no
  | some j=>match (E[j]?).bind Sl.val with
    | some d=> .sh d
    | none=> .no
def fV (js:List (Option Nat)) (E:List Sl):List Sl:=js.map (jS E)
def dY:kO:=fun E=>some (true,E)
def fo (tg:i7) (cond:kO) (elt:bY):List PyData→List Sl→Option (List PyData)
  | [],_=>some []
  | d::ds,E=>(tg d E).bind fun E1=>(cond E1).bind fun b=>if b.1 then (elt b.2).bind fun c=>(frz c.2 c.1).bind fun e=>(fo tg cond elt ds e.2).map fun r=>e.1::r else fo tg cond elt ds b.2
def e_ (js:List (Option Nat)) (it:jK) (tg:i7) (cond:kO) (elt:bY):bY:=fun E=>(it E).bind fun a=>(fo tg cond elt a.1 (fV js a.2)).bind fun ds=>if aZ ds&&decide (ds.length≤1000000) then some (.ow ds,a.2) else none
section
variable {X:Cx} {elt target iter:Expr} {ifs:List Expr} {scope sc:Scope} {cl:List (Str×Addr)} {N:List Str} {pos:Pos} {js:List (Option Nat)} {K:PySem.W.Frag}
theorem rS {B F:Hp} {A:List Addr} {σ:iC} {H:Hp} {E:List Sl} {xs:List V} {Xs:List Sl} (fr:FrF K B F A σ H E xs Xs) (js:List (Option Nat)):FrF K H H [] (slots js σ) H (fV js E) [] []:=by
  refine ⟨Same.refl _,Same.refl _,iI H,?_,List.nodup_nil,fun a ha=>(by cases ha),rfl,fun s hs=>?_⟩
  · have key:∀(τ:iC) (ks:List (Option Nat)),SAll (SlOk K H H τ) (slots ks σ) (fV ks E) []:=fun τ ks=>by
      induction ks with
      | nil=>exact .nil
      | cons j ks ih=>
        refine .cons (A:=[]) ?_ ih
        cases j with
        | none=>exact rfl
        | some j=>
          show SlOk K H H τ _ (match (E[j]?).bind Sl.val with | some d=> .sh d | none=> .no) []
          cases ej:E[j]? with
          | none=>exact rfl
          | some s=>
            cases ev:s.val with
            | none=>simp only [Option.bind_some,ev];exact rfl
            | some d=>
              simp only [Option.bind_some,ev]
              obtain ⟨o,A1,eo,hs⟩:=fr.var ej
              obtain ⟨v,rfl,r,_⟩:=hs.val fr.fh ev
              refine ⟨rfl,v,?_,r⟩
              show (σ[j]?).join=some v
              rw [eo]
              rfl
    exact key _ js
  · obtain ⟨j,_,rfl⟩:=List.mem_map.mp hs
    cases j with
    | none=>rfl
    | some j=>
      simp only [jS]
      split <;> rfl
theorem pY {m2 m3:Bool} {tg:i7} {cond:kO} {el:bY} {tt:TT} (htt:∀σ H Q,rt K m2 cond σ H Q→tt σ H Q) {B B' F:Hp} {A:List Addr} {σ:iC} {H1:Hp} {E1:List Sl} {xs:List V} {Xs:List Sl} {ds rs:List PyData} {J:It} {Q:VK}
    (fr1:FrF K B F A σ H1 E1 xs Xs) (B2:Same B' H1) (ok:mZ K B' J ds) (e2:fo tg cond el ds (fV js E1)=some rs) (hc:aZ rs=true∧rs.length≤1000000) (q:∀v H',Frm K B σ H' E1 (v::xs) (.ow rs::Xs)→Q v H') (l:Addr) (hl:H1 l=none):
    ∃W:Nat→Nat→iC→Hp→Prop,(∃m,W 0 m (slots js σ) (upd H1 l (.lst [])))∧
  ∀i m σ' H',W i m σ' H'→(J.stop i H'∧Q (.ref l) H')∨(J.go i H'∧∃N:iC→Hp→Prop,(∀σ' H',N σ' H'→∃m',m' < m∧W (i+1) m' σ' H')∧∀x H2,J.yld i H' x H2→rg K tg x σ' H2 fun σ3 H3=>tt σ3 H3 fun b H4=>
    if b=true then rd K m3 el σ3 H4 fun y H5=>∃ys,H5 l=some (.lst ys)∧ys.length < sizeLine∧N σ3 (upd H5 l (.lst (ys++[y]))) else N σ3 H4):=by
  have fr0:=(rS fr1 js).newl (ds:=[]) .nil hl
  refine ⟨fun i mm σ' H'=>mm=ds.length - i∧i≤ds.length∧∃Ei acc bD,fo tg cond el (ds.drop i) Ei=some bD∧rs=acc++bD∧Frm K H1 σ' H' Ei [.ref l] [.ow acc],⟨ds.length,by simp,Nat.zero_le _,_,[],rs,by simpa using e2,rfl,⟨_,_,fr0⟩⟩,?_⟩
  rintro i mm σ' H' ⟨rfl,hi,Ei,acc,bD,ei,er,F',A',fri⟩
  obtain ⟨go,stop⟩:=ok i B2 fri
  by_cases hlt:i < ds.length
  · obtain ⟨d,ed⟩:∃d,ds[i]? =some d:=⟨ds[i],List.getElem?_eq_getElem hlt⟩
    obtain ⟨g1,yl⟩:=go d ed
    have edr:ds.drop i=d::ds.drop (i+1):=by
      rw [List.drop_eq_getElem_cons hlt]
      congr 1
      exact Option.some.inj ((List.getElem?_eq_getElem hlt).symm.trans ed)
    rw [edr] at ei
    obtain ⟨E3,e3,ei⟩:=Option.bind_eq_some_iff.mp ei
    obtain ⟨⟨b,E4⟩,e4,ei⟩:=Option.bind_eq_some_iff.mp ei
    refine .inr ⟨g1,fun σ2 H2=>∃Ej acc bD,fo tg cond el (ds.drop (i+1)) Ej=some bD∧rs=acc++bD∧Frm K H1 σ2 H2 Ej [.ref l] [.ow acc],fun σ2 H2 ⟨Ej,ac,rt,ej,er,frj⟩=>⟨ds.length - (i+1),by omega,rfl,hlt,Ej,ac,rt,ej,er,frj⟩,fun x H2 y=>?_⟩
    have clm:Calm [Sl.ow acc]:=Calm.cons (fun s hs=>absurd hs (by simp)) rfl
    refine ⟨H1,Ei,[.ref l],[.ow acc],d,E3,yl x H2 y,(fun s hs=>by rw [List.mem_singleton.mp hs];rfl),e3,fun σ3 H3 fr3=>htt _ _ _ ?_⟩
    refine ⟨H1,E3,[.ref l],[.ow acc],b,E4,fr3,fun _=>clm,e4,fun H4 fr4=>?_⟩
    cases b with
    | false=>
      rw [if_neg (by decide)]
      exact ⟨E4,acc,bD,ei,er,fr4⟩
    | true=>
      rw [if_pos rfl]
      obtain ⟨⟨s5,E5⟩,e5,ei⟩:=Option.bind_eq_some_iff.mp ei
      obtain ⟨⟨d6,E6⟩,e6,ei⟩:=Option.bind_eq_some_iff.mp ei
      obtain ⟨rest',e7,ei⟩:=Option.map_eq_some_iff.mp ei
      subst ei
      refine ⟨H1,E4,[.ref l],[.ow acc],s5,E5,fr4,fun _=>clm,e5,fun y5 H5 ⟨F5,A5,fr5⟩=>?_⟩
      obtain ⟨F6,A6,fr6⟩:=fr5.frz0 e6
      obtain ⟨v',C1,ev,rfl,w,ew,ry⟩:=fr6.ext (k:=0) rfl
      cases ev;cases ew
      obtain ⟨A7,fr7⟩:=fr6.pop
      -- the list under way is the one part that owns
      obtain ⟨bf,fh,tf,sl,nd,frn,len,pl⟩:=fr7
      generalize hT:List.map some [V.ref l]++σ3=T at sl
      generalize hS:[Sl.ow acc]++E6=S at sl
      cases sl with
      | nil=>cases hS
      | cons q0 r0=>
        injection hT with h1 hT
        injection hS with h2 hS
        subst h1 h2 hT hS
        obtain ⟨l',us,el,rfl,hl5,ru⟩:=q0
        cases el
        have lu:=ru.len
        refine ⟨us,hl5,o0 (by rw [er] at hc;simp at hc;omega),E6,acc++[d6],rest',e7,by rw [er];simp,F6,_,bf,fun b o qb=>?_,?_, .cons (A:=[l]) ⟨l,us++[y5],rfl,rfl,upd_same,ru.snoc ry⟩ (r0.mono fun o s C hs hC qq=>qq.stay (Same.refl _) (fun b hb=>am fun z=>?_) fun z=>?_),nd,frn,rfl,pl⟩
        · have lF:F6 l=none:=frn l (by simp)
          rw [am (fun z=>by rw [z,lF] at qb;cases qb)]
          exact fh _ _ qb
        · rw [jI hl5];exact tf
        · have:=hC b hb
          rw [z] at this
          exact (List.nodup_cons.mp nd).1 this
        · have:=pl s hs
          cases s <;> simp [Sl.isAl,Sl.isBr] at this z
  · have e0:i=ds.length:=by omega
    refine .inl ⟨stop e0,?_⟩
    rw [e0,List.drop_length] at ei
    cases ei
    rw [List.append_nil] at er
    subst er
    obtain ⟨g1,g2⟩:=fri.result hc.1
    exact q _ _ (fr1.told g1 g2)
theorem o_ {m m2 m3:Bool} {it:jK} {tg:i7} {cond:kO} {el:bY} {tt:TT} (htt:∀σ H Q,rt K m2 cond σ H Q→tt σ H Q) {σ:iC} {H:Hp} {Q:VK} (z:rd K m (e_ js it tg cond el) σ H Q):mM js (ri K m it) (rg K tg) tt (rd K m3 el) σ H Q:=by
  obtain ⟨B,E,xs,Xs,res,E',fr,cl,e,q⟩:=z
  obtain ⟨⟨ds,E1⟩,e1,e⟩:=Option.bind_eq_some_iff.mp e
  obtain ⟨rs,e2,e⟩:=Option.bind_eq_some_iff.mp e
  simp only at e
  split at e
  · rename_i hc
    cases e
    simp only [Bool.and_eq_true,decide_eq_true_eq] at hc
    exact ⟨B,E,xs,Xs,ds,_,fr,cl,e1,fun B' J H1 hB ⟨F,A,fr1⟩ ok l hl=>pY htt (fr1.base hB) (fr1.bf.trans fr1.fh) ok e2 hc q l hl⟩
  · cases e
theorem h9 {m m3:Bool} {it:jK} {tg:i7} {el:bY} (C:CompOk X scope sc cl N js) (hc:X.calm=true) (hi:IX X target iter m it) (hg:∀C s₀ H₀ fp,GX (X.comp sc cl N C s₀ H₀ fp) target tg) (he:∀C s₀ H₀ fp,EX (X.comp sc cl N C s₀ H₀ fp) elt m3 el)
    (hs:∀x,foldedSetIterable iter X.env x=pure x:=by intro _;rfl):EX X (.ListComp elt [⟨target,iter,[],0⟩] scope pos) m (e_ js it tg dY el):=
  bq (oV (g:=rg X.K tg) (te:=rd X.K m3 el) C hc hi hg (fun _ _ _ _=>lG) he hs) fun σ H Q z=>o_ (m2:=false) (fun σ H Q z=>by
    obtain ⟨B,E,xs,Xs,b,E',fr,cl,e,q⟩:=z
    cases e
    exact q _ fr) z
end
end PL
namespace PL
open PySem L2 Nh
section
variable {X:Cx} {elt target iter:Expr} {ifs:List Expr} {scope sc:Scope} {cl:List (Str×Addr)} {N:List Str} {pos:Pos} {js:List (Option Nat)} {K:PySem.W.Frag}
theorem SAll.split {P:Option V→Sl→List Addr→Prop}:∀{os os':List (Option V)} {ss ss':List Sl} {A:List Addr},os.length=ss.length→SAll P (os++os') (ss++ss') A→∃A1 A2,A=A1++A2∧SAll P os ss A1∧SAll P os' ss' A2
  | [],_,[],_,A,_,h=>⟨[],A,rfl, .nil,h⟩
  | o::os,_,s::ss,_,_,l, .cons h r=>by
    obtain ⟨A1,A2,rfl,h1,h2⟩:=SAll.split (os:=os) (ss:=ss) (by simpa using l) r
    exact ⟨_,A2,by rw [List.append_assoc], .cons h h1,h2⟩
  | [],_,_::_,_,_,l,_=>by simp at l
  | _::_,_,[],_,_,l,_=>by simp at l
end
end PL
namespace PL
open PySem L2 Nh
theorem wG {K:PySem.W.Frag} {m:Bool} {i:Nat} {f:bY} {D:Ends} {σ:iC} {H:Hp} (z:rs K (aH i f) D σ H):rd K m f σ H fun v H1=>kF i v σ H1 D.nx:=by
  obtain ⟨B,E,xs,Xs,E',fl,fr,cl,e,q⟩:=z
  obtain ⟨⟨s,E1⟩,e1,e⟩:=Option.bind_eq_some_iff.mp e
  obtain ⟨⟨s',E2⟩,e2,e⟩:=Option.bind_eq_some_iff.mp e
  refine ⟨B,E,xs,Xs,s,E1,fr,fun _=>Calm.nil cl,e1,fun v H1 ⟨F,A,fr1⟩=>?_⟩
  obtain ⟨c1,F2,A2,fr2⟩:=fr1.settle cl e2
  simp only at e
  split at e
  · rename_i hi
    cases e
    obtain ⟨A3,fr3⟩:=fr2.store c1 (Still.nil cl) hi
    exact q _ _ ⟨F2,A3,fr3⟩
  · cases e
section
variable {X:Cx} {elt target iter:Expr} {scope sc:Scope} {cl:List (Str×Addr)} {N:List Str} {pos spos px:Pos} {js:List (Option Nat)} {x:Str}
theorem rT {m m3:Bool} {it:jK} {tg:i7} {el:bY} (i:Nat) (hN:X.N.Nodup) (C:CompOk X scope sc cl N js) (hc:X.calm=true) (h:IX X target iter m it) (hg:∀C s₀ H₀ fp,GX (X.comp sc cl N C s₀ H₀ fp) target tg) (he:∀C s₀ H₀ fp,EX (X.comp sc cl N C s₀ H₀ fp) elt m3 el)
    (hi:X.N[i]? =some x:=by rfl) (hx:vS X.env.scope x:=by first | exact Or.inl rfl | exact Or.inr rfl) (hf:X.fn x=true∨X.env.scope.names.lookup x=some .local:=by first | exact .inl rfl | exact .inr rfl | assumption)
    (hs:∀x,foldedSetIterable iter X.env x=pure x:=by intro _;rfl) (hsw:swapsWith (.ListComp elt [⟨target,iter,[],0⟩] scope pos) (some (.Name x px)) spos.line X.env=pure true:=by rfl):
    SX X (.Assign [.Name x px] (.ListComp elt [⟨target,iter,[],0⟩] scope pos) spos) (aH i (e_ js it tg dY el)):=
  gX (ul (g:=rg X.K tg) (te:=rd X.K m3 el) C hc (lv hN hi hx hf) h hg (fun _ _ _ _=>lG) he hs hsw) fun D σ H z=>o_ (m2:=false) (fun σ H Q z=>by
    obtain ⟨B,E,xs,Xs,b,E',fr,cl,e,q⟩:=z
    cases e
    exact q _ fr) (wG z)
end
end PL
namespace PL
open PySem L2 Nh
theorem ib {α:Type} (xs:List α) (k:Nat):atI xs (k:Int)=xs[k]? :=by
  unfold atI xC
  rw [if_pos (by omega)]
  split
  · simp
  · rw [List.getElem?_eq_none (by omega)];rfl
theorem i8 {α:Type} (a:α) (l:List α):atI (a::l) 0=some a:=ib (a::l) 0
theorem m7 {α:Type} (a b:α) (l:List α):atI (a::b::l) 1=some b:=ib (a::b::l) 1
theorem kS:∀{a:List PyData},(∀d∈a,aO d=true)→aZ a=true
  | [],_=>rfl
  | x::a,h=>by simp [aZ,h x (List.mem_cons_self ..),kS fun d hd=>h d (List.mem_cons_of_mem _ hd)]
theorem kU {α:Type} {f:α→PyData} (h:∀a,aO (f a)=true) (l:List α):aZ (l.map f)=true:=kS fun d hd=>by
  obtain ⟨a,_,rfl⟩:=List.mem_map.mp hd
  exact h a
theorem uD (p:Pc):aO (aJ p)=true:=rfl
theorem bH (c:List Pc):aZ (c.map aJ)=true:=kU uD c
theorem pZ (l:List Str):aZ (l.map PyData.str)=true:=kU (fun _=>rfl) l
theorem jr {α β:Type} (f:α→β) (k:Nat) (l:List α):(List.replicate k (l.map f)).flatten=((List.replicate k l).flatten).map f:=by
  induction k with
  | zero=>rfl
  | succ k ih=>rw [List.replicate_succ,List.replicate_succ,List.flatten_cons,List.flatten_cons,List.map_append,ih]
theorem kX (lo:Int) (n:Nat):jR lo (n+1)= .int lo::jR (lo+1) n:=by
  unfold jR
  rw [List.range_succ_eq_map,List.map_cons,List.map_map]
  simp only [Int.natCast_zero,Int.add_zero]
  congr 1
  refine List.map_congr_left fun k _=>?_
  show PyData.int (lo+((k+1:Nat):Int))=PyData.int (lo+1+(k:Int))
  congr 1
  omega
end PL
namespace L2
open PySem PySem.Spec PyProof.Rows
section
variable {X:Cx} {pins:List (Addr×Obj)} {σ:L2.St} {H:Hp} {s:Shared} {h':Heap}
theorem Inv.turnedL {t':Nat} {fp:List Addr} (I:Inv X pins σ H s) (k:∀b o,b∉fp→s.heap.get? b=some o→h'.get? b=some o) (hf:∀b∈fp,ka X pins H b):Inv X pins σ H {s with heap:=h',toks:=t'}:=by
  have nit:∀b u,H b=some u→b∉fp:=fun b u e z=>by rw [(hf b z).1] at e;cases e
  refine I.step (g':=s.gens) (d':=s.drawn) (ch:=fp) (fun b hb=>?_) (fun b o _ _ hc e _=>k b o hc e) (fun b o _ _ hc e _=>⟨o.slots,k b o hc e⟩) (fun _ _ _ _ n=>n)
    (fun b o hc e=>⟨o,k b o hc e⟩) (fun _ _ e=>e) (fun _ _ _ e=>e) (fun _ _ e=>e) (fun m hm=>?_) (fun b u e=>?_) I.bare
  · obtain ⟨f0,f1,f2,f3,f4,f5⟩:=hf b hb
    exact ⟨f3,f1,f4,f5⟩
  · obtain ⟨o,es,ep,ho,r⟩:=hm
    exact ⟨o,es,ep,k _ o (fun z=>(hf _ z).2.1 rfl) ho,r⟩
  · refine (I.hok b u e).stay (fun c v hc q=>k c v ?_ q) (fun _ q=>q) fun _ _ q=>q
    rcases hc with z | z
    · rw [z];exact nit b u e
    · exact nit c _ z
theorem n8 {h:Heap} {o o':Obj} {c:Addr} (hc:c≠h.objs.size) (e:(h.push o').get? c=some o):h.get? c=some o:=(Heap.get?_push_cases e).elim (fun z=>absurd z.1 hc) id
theorem rV {t':Nat} {us:List Value} {vs:List V} (I:Inv X pins σ H s) (r:Vals vs us) (hz:vs.length≤sizeLine):
    Inv X pins σ (upd H s.heap.objs.size (.tup vs)) {s with heap:=s.heap.push {cls:= .type "tuple",data:= .seq us.toArray},toks:=t'}:=
  I.laid (fun b u e=>Heap.get?_push_of_some _ e) (Nat.le_refl _) ⟨hz,us,r,⟨_,Heap.get?_push_size _ rfl,rfl,_,rfl⟩⟩
end
def zr (K:PySem.W.Frag) (a b:Addr) (xs ys:List V):It:=
  ⟨fun i H=>SqL K H a xs∧SqL K H b ys∧i < xs.length∧i < ys.length,fun i H x H'=>∃T u v,H T=none∧xs[i]? =some u∧ys[i]? =some v∧x= .ref T∧H'=upd H T (.tup [u,v]),
   fun i H=>SqL K H a xs∧SqL K H b ys∧i=min xs.length ys.length⟩
theorem rW {P:Program} {w:World} {K:PySem.W.Frag} {p0:List Expr} {k:Nat} {pos:Pos} {z TI TO i1 i2 a b:Addr} (D:ZipApart z TI TO i1 i2 a b) (xs ys:List V):Turn P w K (.Tuple p0 k pos) (zr K a b xs ys) [z,TI,TO,i1,i2] z
    (fun i h=>IsZip h z TI TO .none∧IsPair h TI (.ref i1) (.ref i2)∧(∃a b,IsPair h TO a b)∧h.IsListIter i1 a i∧h.IsListIter i2 b i) where
  mem:=by simp
  obj:=fun i h st c hc=>by
    obtain ⟨h1,h2,⟨x,y,h3⟩,⟨o4,h4,_,d4⟩,⟨o5,h5,_,d5⟩⟩:=st
    simp only [List.mem_cons,List.not_mem_nil,or_false] at hc
    rcases hc with rfl | rfl | rfl | rfl | rfl
    · exact ⟨_,h1,fun v z=>by cases z⟩
    · exact ⟨_,h2,fun v z=>by cases z⟩
    · exact ⟨_,h3,fun v z=>by cases z⟩
    · exact ⟨_,h4,fun v z=>by rw [d4] at z;cases z⟩
    · exact ⟨_,h5,fun v z=>by rw [d5] at z;cases z⟩
  keep:=fun i h h' st kk=>by
    obtain ⟨h1,h2,⟨x,y,h3⟩,h4,h5⟩:=st
    exact ⟨kk z (by simp) _ h1,kk TI (by simp) _ h2,⟨x,y,kk TO (by simp) _ h3⟩,h4.at fun o e=>kk i1 (by simp) o e,h5.at fun o e=>kk i2 (by simp) o e⟩
  item:=by
    intro X hP hw hK hc i pins s σ H E I hf st hg
    subst hP hw hK
    obtain ⟨h1,h2,⟨x,y,h3⟩,h4,h5⟩:=st
    obtain ⟨q1,q2,l1,l2⟩:=hg
    obtain ⟨its,rv,p,hz⟩:=I.list q1
    obtain ⟨its2,rv2,p2,hz2⟩:=I.list q2
    obtain ⟨u,hu⟩:∃u,xs[i]? =some u:=⟨xs[i],List.getElem?_eq_getElem l1⟩
    obtain ⟨v,hv⟩:∃v,ys[i]? =some v:=⟨ys[i],List.getElem?_eq_getElem l2⟩
    obtain ⟨u',hu',ru⟩:=rv.get hu
    obtain ⟨v',hv',rv'⟩:=rv2.get hv
    refine wpAny_pyNext_zip_item D h1 h2 h3 h4 h5 p.isList p2.isList (by simpa using hu') (by simpa using hv') fun h' a1 a2 a3 a4 a5 a6 hk=>?_
    have I0:=rV (t':=s.toks) I (us:=[u',v']) (vs:=[u,v]) (.cons ru (.cons rv' .nil)) (by show 2≤sizeLine;decide)
    have hT:∀c∈[z,TI,TO,i1,i2],c≠s.heap.objs.size:=fun c hc ZE=>by
      have:c < s.heap.objs.size:=by
        simp only [List.mem_cons,List.not_mem_nil,or_false] at hc
        rcases hc with rfl | rfl | rfl | rfl | rfl
        · exact Heap.lt_size h1
        · exact Heap.lt_size h2
        · exact Heap.lt_size h3
        · obtain ⟨o,q,_⟩:=h4;exact Heap.lt_size q
        · obtain ⟨o,q,_⟩:=h5;exact Heap.lt_size q
      rw [ZE] at this;exact Nat.lt_irrefl _ this
    have hf2:∀c∈[z,TI,TO,i1,i2],ka X pins (upd H s.heap.objs.size (.tup [u,v])) c:=fun c hc=>by
      obtain ⟨f0,f⟩:=hf c hc
      exact ⟨by rw [am (hT c hc)];exact f0,f⟩
    have I1:=I0.turnedL (h':=h') (t':=s.toks) (fp:=[z,TI,TO,i1,i2]) (fun c o hc e=>by
      simp only [List.mem_cons,List.not_mem_nil,or_false,not_or] at hc
      by_cases ec:c=s.heap.objs.size
      · subst ec
        rw [Heap.get?_push_size _ rfl] at e
        cases e
        exact a5
      · have e':s.heap.get? c=some o:=by
          exact n8 ec e
        exact hk c o hc.1 hc.2.2.1 hc.2.2.2.1 hc.2.2.2.2 e') hf2
    refine ⟨_,rfl,wpAny_letOwnedTupleGo_zip (s:={s with heap:=h'}) a1 fun h'' z'' s''=>?_⟩
    have I2:=I1.turnedL (h':=h'') (t':=s.toks) (fp:=[z,TI,TO,i1,i2]) (fun c o hc e=>(s''.2 c fun e'=>hc (by simp [e'])).trans e) hf2
    refine ⟨.ref s.heap.objs.size,_,I2,rfl,⟨_,u,v,I.hok.fresh (Nat.le_refl _),hu,hv,rfl,rfl⟩,⟨z'',?_,⟨_,_,s''.extBut _ _ D.TOz a2⟩,a3.extBut s''.extBut D.i1z,a4.extBut s''.extBut D.i2z⟩,fun c hc=>(hf2 c hc).1⟩
    exact s''.extBut _ _ D.TIz (hk _ _ D.TIz D.TITO D.TIi1 D.TIi2 h2)
  done:=by
    intro X hP hw hK hc i pins s σ H E I hf st hg
    subst hP hw hK
    obtain ⟨h1,h2,⟨x,y,h3⟩,h4,h5⟩:=st
    obtain ⟨q1,q2,hi⟩:=hg
    obtain ⟨its,rv,p,hz⟩:=I.list q1
    obtain ⟨its2,rv2,p2,hz2⟩:=I.list q2
    have n1:=rv.length
    have n2:=rv2.length
    refine wpAny_pyNext_zip_end (I.ok.hd hc) D h1 h2 h3 h4 h5 p.isList p2.isList ?_ fun h' hk=>⟨rfl,I.turnedL (t':=s.toks) (fp:=[z,TI,TO,i1,i2]) (fun c o hc e=>?_) hf⟩
    · rcases Nat.le_total xs.length ys.length with h | h
      · exact .inl (Array.getElem?_eq_none (by rw [List.size_toArray];omega))
      · exact .inr (Array.getElem?_eq_none (by rw [List.size_toArray];omega))
    · simp only [List.mem_cons,List.not_mem_nil,or_false,not_or] at hc
      exact hk c o hc.1 hc.2.2.1 hc.2.2.2.1 hc.2.2.2.2 e
  self:=fun _ _ _ _ _ st h=>wpAny_pyIter_zip st.1 h
def zt (K:PySem.W.Frag) (tl:TA):TI:=fun σ H R=>tl σ H fun vs H1=>∃a b xs ys,vs=[.ref a, .ref b]∧SqL K H1 a xs∧SqL K H1 b ys∧R (zr K a b xs ys) H1
section
variable {X:Cx} {p0:List Expr} {kt:Nat} {pt:Pos}
theorem wH {l l2:Expr} {tl:TA} {p pos:Pos} (hg:Gl X "zip") (hm:X.mg "zip"=none) (ha:PA X [l,l2] tl) (hs:starEach [l,l2] X.env=(false,eval l X.env)::starEach [l2] X.env:=by rfl) (hs2:starEach [l2] X.env=[(false,eval l2 X.env)]:=by rfl):PI X (.Tuple p0 kt pt) (.Call (.Name "zip" p) [l,l2] [] pos) (zt X.K tl):=by
  intro pins s σ H R I h
  refine Call_ (iE I hg hm boot_zip (PyProof.Rows.callWith_type1 (cI (ha pos pins s σ H _ I h) fun us s1 ⟨vs,H1,I1,r1,q1⟩=>?_) hs (by rw [hs2];rfl)))
  obtain ⟨a,b,xs,ys,e,hq,hq2,q⟩:=q1
  subst e
  obtain ⟨u,v,rfl,ru,rv⟩:=r1.two
  cases ru;cases rv
  obtain ⟨its,rva,p1,hz⟩:=I1.list hq
  obtain ⟨its2,rvb,p2,hz2⟩:=I1.list hq2
  have la:a < s1.heap.objs.size:=by obtain ⟨_,e,_⟩:=p1.isList;exact Heap.lt_size e
  have lb:b < s1.heap.objs.size:=by obtain ⟨_,e,_⟩:=p2.isList;exact Heap.lt_size e
  refine call_zip_2 p1.isList p2.isList fun h' z1 z2 z3 z4 z5 z6 hk=>?_
  have I2:Inv X pins σ H1 {s1 with heap:=h'}:=I1.kept (t':=s1.toks) hk
  refine wpAny_pyIter_zip (s:={s1 with heap:=h'}) z1 ⟨_,[_,_,_,_,_],_,_,H1,rfl,I2,rW (zipApart_new la lb) xs ys,⟨z1,z2,⟨_,_,z3⟩,z4,z5⟩,fun c hc=>?_,q⟩
  have le:s1.heap.objs.size≤c:=by
    simp only [List.mem_cons,List.not_mem_nil,or_false] at hc
    rcases hc with rfl | rfl | rfl | rfl | rfl
    · exact Nat.le_add_right _ 4
    · exact Nat.le_add_right _ 2
    · exact Nat.le_add_right _ 3
    · exact Nat.le_refl _
    · exact Nat.le_add_right _ 1
  exact I1.fpOk le (I1.hok.fresh le)
end
def yT (x:Str):It:=⟨fun i _=>i < x.cps.toList.length,fun i H v H'=>H'=H∧∃c,x.cps.toList[i]? =some c∧v= .str ⟨#[c]⟩,fun i _=>i=x.cps.toList.length⟩
theorem rX {P:Program} {w:World} {K:PySem.W.Frag} {tg:Expr} {it:Addr} {T:String} {x:Str} {t:Tok} (hT:T="str_ascii_iterator"∨T="str_iterator"):Turn P w K tg (yT x) [it] it (fun i h=>h.IsStrIter it T x t i) where
  mem:=by simp
  obj:=fun i h st b hb=>by
    have e:b=it:=by simpa using hb
    subst e
    obtain ⟨o,e,c,d⟩:=st
    exact ⟨o,e,fun v z=>by rw [d] at z;cases z⟩
  keep:=fun i h h' st k=>let ⟨o,ho,r⟩:=st;⟨o,k it (by simp) o ho,r⟩
  item:=by
    intro X hP hw hK hc i pins s σ H E I hf st hg
    subst hP hw hK
    obtain ⟨f0,f1,f2,f3,f4,f5⟩:=hf it (by simp)
    have hi:i < x.cps.toList.length:=hg
    have hx:x.cps[i]? =some (x.cps.toList[i]'hi):=by simp at hi;simp [hi]
    have fin:∀(h':Heap),h'.IsStrIter it T x t (i+1)→Heap.SameBut it s.heap h'→∃u,some (Value.str ⟨#[x.cps.toList[i]'hi]⟩ s.toks)=some u∧
        wpAny (model X.prog X.w) X.A (letOwnedTupleGo tg (.ref it) u) (fun _ s2=>∃v H',Inv X pins σ H' s2∧RelV v u∧(yT x).yld i H v H'∧s2.heap.IsStrIter it T x t (i+1)∧∀b∈[it],H' b=none) E {s with heap:=h',toks:=s.toks+1}:=fun h' st' sb=>by
      have I1:Inv X pins σ H {s with heap:=h',toks:=s.toks+1}:=I.turned (t':=s.toks+1) (fun b o hb e=>(sb.2 b hb).trans e) f0 f1 f3 f4 f5
      obtain ⟨o,e,c,d⟩:=id st'
      exact ⟨_,rfl,mG (s:={s with heap:=h',toks:=s.toks+1}) e c d (by rcases hT with rfl | rfl <;> decide) ⟨.str ⟨#[x.cps.toList[i]'hi]⟩,H,I1,⟨_,rfl⟩,⟨rfl,_,List.getElem?_eq_getElem hi,rfl⟩,st',fun b hb=>(hf b hb).1⟩⟩
    rcases hT with rfl | rfl
    · exact wpAny_pyNext_ascii_item st hx fun h' st' sb=>fin h' st' sb
    · exact wpAny_pyNext_wide_item st hx fun h' st' sb=>fin h' st' sb
  done:=by
    intro X hP hw hK hc i pins s σ H E I hf st hg
    subst hP hw hK
    obtain ⟨f0,f1,f2,f3,f4,f5⟩:=hf it (by simp)
    have hi:i=x.cps.toList.length:=hg
    have hx:x.cps[i]? =none:=by simp at hi;simp [hi]
    rcases hT with rfl | rfl
    · exact wpAny_pyNext_ascii_end (I.ok.hd hc) st hx fun h' eb=>⟨rfl,I.turned (t':=s.toks) (fun b o hb e=>eb b o hb e) f0 f1 f3 f4 f5⟩
    · exact wpAny_pyNext_wide_end (I.ok.hd hc) st hx fun h' eb=>⟨rfl,I.turned (t':=s.toks) (fun b o hb e=>eb b o hb e) f0 f1 f3 f4 f5⟩
  self:=fun _ _ _ _ _ st h=>by
    rcases hT with rfl | rfl
    · exact wpAny_pyIter_striter_ascii st h
    · exact wpAny_pyIter_striter_wide st h
def zu (tl:TE):TI:=fun σ H R=>tl σ H fun v H1=>∃x,v= .str x∧R (yT x) H1
theorem wI {X:Cx} {tg l:Expr} {tl:TE} (hl:PE X l tl):PI X tg l (zu tl):=by
  intro pins s σ H R I h
  refine cI (hl pins s σ H _ I h) fun v s1 ⟨y,H1,I1,r1,q1⟩=>?_
  obtain ⟨x,e,q⟩:=q1
  subst e
  obtain ⟨t,rfl⟩:=r1
  refine wpAny_pyIter_strU ?_
  refine ⟨s1.heap.objs.size,[s1.heap.objs.size],fun i h=>h.IsStrIter s1.heap.objs.size (strIterType x) x t i,_,H1,rfl,I1.kept (t':=s1.toks) fun b o e=>Heap.get?_push_of_some _ e,rX (t:=t) ?_,⟨_,Heap.get?_push_size _ rfl,rfl,rfl⟩,fun b hb=>?_,q⟩
  · unfold strIterType
    split
    · exact .inl rfl
    · exact .inr rfl
  · have e:b=s1.heap.objs.size:=by simpa using hb
    subst e
    exact I1.fpOk (Nat.le_refl _) (I1.hok.fresh (Nat.le_refl _))
theorem PI.or {X:Cx} {tg l:Expr} {a b:TI} (h1:PI X tg l a) (h2:PI X tg l b):PI X tg l (fun σ H R=>a σ H R∨b σ H R):=by
  intro pins s σ H R I h
  rcases h with h | h
  · exact h1 pins s σ H R I h
  · exact h2 pins s σ H R I h
end L2
namespace PL
open PySem L2 Nh
def gR:List PyData→List PyData→List PyData
  | a::as,b::bs=> .tuple [a,b]::gR as bs
  | _,_=>[]
def m8 (f g:bY):jK:=fun E=>(f E).bind fun a=>(frz a.2 a.1).bind fun b=>(g b.2).bind fun c=>(frz c.2 c.1).bind fun d=>match b.1,d.1 with
  | .list xs, .list ys=>some (gR xs ys,d.2)
  | _,_=>none
def lS (x:Str):List PyData:=x.cps.toList.map fun c=> .str ⟨#[c]⟩
def iO (f:bY):jK:=fun E=>(f E).bind fun a=>(frz a.2 a.1).bind fun b=>match b.1 with
  | .list ds=>some (ds,b.2)
  | .tuple ds=>some (ds,b.2)
  | .str x=>some (lS x,b.2)
  | _=>none
section
variable {X:Cx} {K:PySem.W.Frag} {B:Hp}
theorem m9:∀{as bs:List PyData} {i:Nat} {d:PyData},(gR as bs)[i]? =some d→∃a b,as[i]? =some a∧bs[i]? =some b∧d= .tuple [a,b]
  | a::as,b::bs,0,d,e=>by simp [gR] at e;exact ⟨a,b,rfl,rfl,e.symm⟩
  | a::as,b::bs,i+1,d,e=>by
    obtain ⟨x,y,h1,h2,h3⟩:=m9 (as:=as) (bs:=bs) (i:=i) (by simpa [gR] using e)
    exact ⟨x,y,by simpa using h1,by simpa using h2,h3⟩
  | [],_,_,_,e=>by simp [gR] at e
  | _::_,[],_,_,e=>by simp [gR] at e
theorem m_:∀(as bs:List PyData),(gR as bs).length=min as.length bs.length
  | a::as,b::bs=>by simp [gR,m_ as bs]
  | [],_=>by simp [gR]
  | _::_,[]=>by simp [gR]
theorem rY {a b:Addr} {vs us:List V} {ds es:List PyData} (h:SqL K B a vs) (r:RpA K B vs ds) (h2:SqL K B b us) (r2:RpA K B us es):mZ K B (zr K a b vs us) (gR ds es):=fun {B' F A σ H E xs Xs} i sB fr=>by
  have hH:=fr.fh.seq (fr.bf.seq (sB.seq h))
  have hH2:=fr.fh.seq (fr.bf.seq (sB.seq h2))
  refine ⟨fun d ed=>?_,fun e=>⟨hH,hH2,by rw [e,m_,r.len,r2.len]⟩⟩
  obtain ⟨x,y,ex,ey,rfl⟩:=m9 ed
  obtain ⟨v,ev,rv⟩:=r.get ex
  obtain ⟨u,eu,ru⟩:=r2.get ey
  refine ⟨⟨hH,hH2,(List.getElem?_eq_some_iff.mp ev).1,(List.getElem?_eq_some_iff.mp eu).1⟩,fun z H2 ⟨T,v',u',hT,e1,e2,e3,e4⟩=>?_⟩
  rw [ev] at e1;cases e1
  rw [eu] at e2;cases e2
  subst e3 e4
  have s1:=sB.trans fr.bf
  exact ⟨_,_,fr.newt (.cons (rv.same s1) (.cons (ru.same s1) .nil)) hT⟩
theorem rZ {x:Str}:mZ K B (yT x) (lS x):=fun {B' F A σ H E xs Xs} i sB fr=>by
  refine ⟨fun d ed=>?_,fun e=>by show i=x.cps.toList.length;rw [e];simp [lS]⟩
  unfold lS at ed
  rw [List.getElem?_map] at ed
  obtain ⟨c,ec,rfl⟩:=Option.map_eq_some_iff.mp ed
  refine ⟨(List.getElem?_eq_some_iff.mp ec).1,fun z H2 ⟨e1,c',e2,e3⟩=>?_⟩
  rw [ec] at e2;cases e2
  subst e1 e3
  exact ⟨F,A,fr.push ⟨rfl,_,rfl, .str _⟩⟩
theorem r8 {a:Addr} {vs:List V} {ds:List PyData} (h:SqT K B a vs) (r:RpA K B vs ds):mZ K B (za K a) ds:=fun {B' F A σ H E xs Xs} i sB fr=>by
  have hH:=fr.fh.tup (fr.bf.tup (sB.tup h))
  refine ⟨fun d ed=>?_,fun e=>⟨vs,hH,by rw [e,r.len];exact Nat.le_refl _⟩⟩
  obtain ⟨v,ev,rv⟩:=r.get ed
  refine ⟨⟨vs,v,hH,ev⟩,fun x H2 ⟨e2,y⟩=>?_⟩
  subst e2
  have:=y vs hH
  rw [ev] at this
  cases this
  exact ⟨F,A,fr.push ⟨rfl,_,rfl,rv.same (sB.trans fr.bf)⟩⟩
theorem jT {tg e:Expr} {m:Bool} {f:bY} (he:EX X e m f):IX X tg e m (iO f):=lR (PI.or (oO he) (PI.or (v7 he) (wI he))) fun σ H R z=>by
  obtain ⟨B,E,xs,Xs,ds,E',fr,cl,e,q⟩:=z
  obtain ⟨⟨s,E1⟩,e1,e⟩:=Option.bind_eq_some_iff.mp e
  obtain ⟨⟨d,E2⟩,e2,e⟩:=Option.bind_eq_some_iff.mp e
  have key:∀(v:V) (H1:Hp),Frm X.K B σ H1 E1 (v::xs) (s::Xs)→∃F2 A2 A3,Rp X.K F2 v d∧Same B F2∧FrF X.K F2 F2 A3 σ H1 E2 xs Xs∧FrF X.K B F2 A2 σ H1 E2 (v::xs) (.sh d::Xs):=fun v H1 ⟨F,A,fr1⟩=>by
    obtain ⟨F2,A2,fr2⟩:=fr1.frz0 e2
    obtain ⟨v',A1,ev,rfl,w,ew,r⟩:=fr2.ext (k:=0) rfl
    cases ev;cases ew
    obtain ⟨A3,fr3⟩:=fr2.pop
    exact ⟨F2,A2,A3,r,fr2.bf,fr3.raise,fr2⟩
  simp only at e
  split at e
  · cases e
    refine .inl ⟨B,E,xs,Xs,s,E1,fr,cl,e1,fun v H1 fr1=>?_⟩
    obtain ⟨F2,A2,A3,r,sb,fr3,fr2⟩:=key v H1 fr1
    cases r with
    | lst h1 h2=>exact ⟨_,rfl,⟨_,fr2.fh.seq h1⟩,q F2 _ _ sb ⟨F2,A3,fr3⟩ (pX h1 h2)⟩
  · cases e
    refine .inr (.inl ⟨B,E,xs,Xs,s,E1,fr,cl,e1,fun v H1 fr1=>?_⟩)
    obtain ⟨F2,A2,A3,r,sb,fr3,fr2⟩:=key v H1 fr1
    cases r with
    | tup h1 h2=>exact ⟨_,rfl,⟨_,fr2.fh.tup h1⟩,q F2 _ _ sb ⟨F2,A3,fr3⟩ (r8 h1 h2)⟩
  · cases e
    refine .inr (.inr ⟨B,E,xs,Xs,s,E1,fr,cl,e1,fun v H1 fr1=>?_⟩)
    obtain ⟨F2,A2,A3,r,sb,fr3,fr2⟩:=key v H1 fr1
    cases r
    exact ⟨_,rfl,q F2 _ _ sb ⟨F2,A3,fr3⟩ rZ⟩
  · cases e
theorem r_ {p0:List Expr} {kt:Nat} {pt p pos:Pos} {e e2:Expr} {m m2:Bool} {f g:bY} (hg:Gl X "zip") (hm:X.mg "zip"=none) (he:EX X e m f) (he2:EX X e2 m2 g) (hs:starEach [e,e2] X.env=(false,eval e X.env)::starEach [e2] X.env:=by rfl) (hs2:starEach [e2] X.env=[(false,eval e2 X.env)]:=by rfl):IX X (.Tuple p0 kt pt) (.Call (.Name "zip" p) [e,e2] [] pos) (m||m2) (m8 f g):=lR (wH hg hm (bi he (bi he2 cQ hs2) hs) hs hs2) fun σ H R z=>by
  obtain ⟨B,E,xs,Xs,ds,E',fr,cl,e,q⟩:=z
  obtain ⟨⟨s,E1⟩,e1,e⟩:=Option.bind_eq_some_iff.mp e
  obtain ⟨⟨d,E2⟩,e2,e⟩:=Option.bind_eq_some_iff.mp e
  obtain ⟨⟨s3,E3⟩,e3,e⟩:=Option.bind_eq_some_iff.mp e
  obtain ⟨⟨d4,E4⟩,e4,e⟩:=Option.bind_eq_some_iff.mp e
  refine ⟨B,E,xs,Xs,s,E1,fr,fun z=>cl (by simp [z]),e1,fun v H1 ⟨F,A,fr1⟩=>?_⟩
  obtain ⟨F2,A2,fr2⟩:=fr1.frz0 e2
  refine ⟨B,E2,v::xs, .sh d::Xs,s3,E3,⟨F2,A2,fr2⟩,fun z=>Calm.cons (cl (by simp [z])) rfl,e3,fun v3 H3 ⟨F3,A3,fr3⟩=>?_⟩
  obtain ⟨F4,A4,fr4⟩:=fr3.frz0 e4
  simp only at e
  split at e
  · cases e
    obtain ⟨v',A1,ev,rfl,w,ew,r⟩:=fr4.ext (k:=0) rfl
    cases ev;cases ew
    obtain ⟨v',A1,ev,rfl,w,ew,r2⟩:=fr4.ext (k:=1) rfl
    cases ev;cases ew
    cases r with
    | lst h1 h2=>
      cases r2 with
      | lst h3 h4=>
        obtain ⟨A5,fr5⟩:=fr4.pop
        obtain ⟨A6,fr6⟩:=fr5.pop
        exact ⟨_,_,_,_,rfl,fr4.fh.seq h3,fr4.fh.seq h1,q F4 _ _ fr4.bf ⟨F4,A6,fr6.raise⟩ (rY h3 h4 h1 h2)⟩
  · cases e
end
end PL
namespace PL
open PySem L2 Nh
inductive Cm where
  | lt | le | gt | ge
def Cm.op:Cm→CmpOp
  | .lt=> .Lt
  | .le=> .LtE
  | .gt=> .Gt
  | .ge=> .GtE
def Cm.i:Cm→Int→Int→Bool
  | .lt,i,j=>decide (i < j)
  | .le,i,j=>decide (i≤j)
  | .gt,i,j=>decide (j < i)
  | .ge,i,j=>decide (j≤i)
def Cm.s:Cm→List Nat→List Nat→Bool
  | .lt,i,j=>decide (i < j)
  | .le,i,j=> !decide (j < i)
  | .gt,i,j=>decide (j < i)
  | .ge,i,j=> !decide (i < j)
def eG (c:Cm):PyData→PyData→Option PyData
  | .int i, .int j=>some (.bool (c.i i j))
  | .str x, .str y=>some (.bool (c.s x.cps.toList y.cps.toList))
  | _,_=>none
def zX (c:Cm):R2:=fun x y H Q=>(∃i j,x= .int i∧y= .int j∧Q (.bl (c.i i j)) H)∨(∃i j,x= .str i∧y= .str j∧Q (.bl (c.s i.cps.toList j.cps.toList)) H)
section
variable {X:Cx} {a b c:Expr} {m1 m2 m3:Bool} {f g h:bY} {pos:Pos} {K:PySem.W.Frag}
theorem sd (c:Cm):OpR X (compareOp c.op) (zX c):=by
  cases c with
  | lt=>exact OpR.or xU pI
  | le=>exact OpR.or xV (fun pins s σ H x y v u Q I rx ry h=>by
      obtain ⟨i,j,rfl,rfl,q⟩:=h
      obtain ⟨t,rfl⟩:=rx
      obtain ⟨t',rfl⟩:=ry
      exact PySem.P.le_str (aP I q rfl))
  | gt=>exact OpR.or xW (fun pins s σ H x y v u Q I rx ry h=>by
      obtain ⟨i,j,rfl,rfl,q⟩:=h
      obtain ⟨t,rfl⟩:=rx
      obtain ⟨t',rfl⟩:=ry
      exact PySem.P.gt_str (aP I q rfl))
  | ge=>exact OpR.or xX (fun pins s σ H x y v u Q I rx ry h=>by
      obtain ⟨i,j,rfl,rfl,q⟩:=h
      obtain ⟨t,rfl⟩:=rx
      obtain ⟨t',rfl⟩:=ry
      exact PySem.P.ge_str (aP I q rfl))
theorem se (c:Cm):pT K (zX c) (eG c):=fun d1 d2 d v1 v2 H Q e r1 r2=>by
  unfold eG at e
  split at e
  · cases e;cases r1;cases r2
    exact ⟨_,rfl,fun q=> .inl ⟨_,_,rfl,rfl,q⟩⟩
  · cases e;cases r1;cases r2
    exact ⟨_,rfl,fun q=> .inr ⟨_,_,rfl,rfl,q⟩⟩
  · cases e
theorem p3 (c:Cm) (b:Expr):behindInMarks c.op b=false:=by cases c <;> exact jD _
theorem kY (c:Cm) (ha:EX X a m1 f) (hb:EX X b m2 g):TX X (.Compare a [c.op] [b] pos) (m1||m2) (dH (ah (dD (eG c)) m2 f g)):=n0 (sd c) (iJ (se c)) ha hb (p3 c b)
theorem ym (c1 c2:Cm) (ha:EX X a m1 f) (hb:EX X b m2 g) (hc:EX X c m3 h) (hm:lastMarks [c1.op,c2.op] [b,c]=false:=by with_unfolding_all rfl):TX X (.Compare a [c1.op,c2.op] [b,c] pos) (m1||(m2||m3)) (dH (gY (eG c1) (eG c2) m2 m3 f g h)):=rM (sd c1) (sd c2) (se c1) (se c2) ha hb hc hm
def isInt:PyData→Option Int
  | .int x=>some x
  | _=>none
def iP:List PyData→Option (List Str)
  | []=>some []
  | .str x::ds=>(iP ds).map fun xs=>x::xs
  | _::_=>none
theorem n_ (xs:List Str):iP (xs.map .str)=some xs:=by
  induction xs with
  | nil=>rfl
  | cons x xs ih=>simp [iP,ih]
theorem iQ:∀{ds:List PyData} {xs:List Str},iP ds=some xs→ds=xs.map .str
  | [],xs,h=>by cases h;rfl
  | d::ds,xs,h=>by
    cases d with
    | str x=>
      obtain ⟨ys,e,rfl⟩:=Option.map_eq_some_iff.mp h
      rw [iQ e];rfl
    | _=>cases h
theorem jU {H:Hp}:∀{vs:List V} {xs:List Str},RpA K H vs (xs.map .str)→vs=xs.map .str
  | [],[],_=>rfl
  | v::vs,x::xs, .cons h r=>by cases h;rw [jU r];rfl
end
def iR:List PyData→Option PyData
  | [.int i]=>some (.int i)
  | [.bool b]=>some (.int (if b then 1 else 0))
  | _=>none
def pb (x:Str):PyData→Option PyData
  | .list ds=>(iP ds).bind fun ys=>if (ys.map (·.length)).sum+ys.length*x.length≤1000000 then some (.str (Txt.join x ys)) else none
  | .tuple ds=>(iP ds).bind fun ys=>if (ys.map (·.length)).sum+ys.length*x.length≤1000000 then some (.str (Txt.join x ys)) else none
  | _=>none
theorem kZ {ys:List Str}:∀{us:List Value},Vals (ys.map V.str) us→PyProof.Rows.StrsAre us ys:=by
  induction ys with
  | nil=>intro us h;cases h;exact .nil
  | cons y ys ih=>
    intro us h
    cases h with
    | cons h r=>
      obtain ⟨t,rfl⟩:=h
      exact .cons y t (ih r)
def yn (K:PySem.W.Frag):V→List V→Hp→VK→Prop:=fun x vs H Q=>∃z p ys,x= .str z∧vs=[.ref p]∧(SqL K H p (ys.map .str)∨SqT K H p (ys.map .str))∧(ys.map (·.length)).sum+ys.length*z.length≤16777216∧Q (.str (Txt.join z ys)) H
theorem uE {X:Cx}:MtR X "str.join" (yn X.K):=by
  intro pins s σ H x vs v us Q I rx rv h
  obtain ⟨z,p,ys,rfl,rfl,hq,hl,q⟩:=h
  obtain ⟨t,rfl⟩:=rx
  obtain ⟨u,rfl,ru⟩:=rv.one
  cases ru
  rcases hq with hq | hq
  · obtain ⟨its,r,pl,_⟩:=I.list hq
    exact PyProof.Rows.join_list pl.isList (by simpa using kZ r) hl fun t' k=>⟨.str _,H,I.tok _,⟨_,rfl⟩,q⟩
  · obtain ⟨its,r,pl,_⟩:=I.tuple hq
    exact PyProof.Rows.join_tuple pl (by simpa using kZ r) hl fun t' k=>⟨.str _,H,I.tok _,⟨_,rfl⟩,q⟩
section
variable {X:Cx} {e o:Expr} {m1 m2:Bool} {g:kP} {f h:bY} {p pos apos cpos:Pos} {K:PySem.W.Frag}
theorem lT (hg:Gl X "int") (hm:X.mg "int"=none) (ha:AX X [e] m1 g) (he:starEach [e] X.env=[(false,eval e X.env)]:=by rfl):EX X (.Call (.Name "int" p) [e] [] pos) m1 (bB iR g):=
  bq (gJ pJ hg hm PyProof.Rows.boot_int ha (by decide) (by decide) he rfl) fun _ _ _ z=>n5 (fun ds d vs H Q e r=>by
    unfold iR at e
    split at e
    · cases e
      obtain ⟨v,rfl,r'⟩:=r.one
      cases r'
      exact ⟨_,rfl,fun q=> .inl ⟨_,rfl,q⟩⟩
    · cases e
      obtain ⟨v,rfl,r'⟩:=r.one
      cases r'
      exact ⟨_,rfl,fun q=> .inr ⟨_,rfl,q⟩⟩
    · cases e) z
def sf (x:Str) (f:bY):bY:=gh (pb x) f
theorem uF {x:Str} {j:Nat} {sp:Pos} (he:EX X e m1 f) (hs:starEach [e] X.env=[(false,eval e X.env)]:=by rfl) (hbase:attributeBase (.Constant (.str x) j sp) "join" X.env (eval (.Constant (.str x) j sp) X.env)=eval (.Constant (.str x) j sp) X.env:=by rfl)
    (hfew:((backTo cpos (starEach [e] X.env)).all (fun x=> !x.1)&&(backToKw cpos (keywordEach [] X.env)).all (fun x=>x.1.isSome)
      &&decide (([e]:List Expr).length+([]:List Keyword).length+(if ([]:List Keyword).isEmpty then 0 else 1) < 30))=true:=by rfl) (hline:(apos.endLine == cpos.line)=true:=by rfl):
    EX X (.Call (.Attribute (.Constant (.str x) j sp) "join" apos) [e] [] cpos) m1 (sf x f):=by
  refine bq (q9 PySem.F.plainAttrs_str PySem.F.slot_str_join PySem.F.type_str_join uE (nO) (bi he cQ hs) hbase hfew hline hs rfl) fun σ H Q z=>?_
  obtain ⟨B,E,xs,Xs,res,E',fr,c,e,q⟩:=z
  obtain ⟨⟨s1,E1⟩,e1,e⟩:=Option.bind_eq_some_iff.mp e
  obtain ⟨d1,e2,e⟩:=Option.bind_eq_some_iff.mp e
  obtain ⟨d,e3,e⟩:=Option.map_eq_some_iff.mp e
  cases e
  refine ⟨rfl,B,E,xs,Xs,s1,E1,fr,c,e1,fun v1 H1 ⟨F,A,fr1⟩=>?_⟩
  have r:=(fr1.look0 e2).1
  obtain ⟨A',fr2⟩:=fr1.pop
  unfold pb at e3
  split at e3
  · obtain ⟨ys,ey,e3⟩:=Option.bind_eq_some_iff.mp e3
    split at e3
    · rename_i hl
      cases e3
      cases r with
      | lst h1 h2=>
        rw [iQ ey] at h2
        rw [jU h2] at h1
        exact ⟨x,_,ys,rfl,rfl, .inl h1,by omega,q _ _ ⟨F,A',fr2.push ⟨rfl,_,rfl, .str _⟩⟩⟩
    · cases e3
  · obtain ⟨ys,ey,e3⟩:=Option.bind_eq_some_iff.mp e3
    split at e3
    · rename_i hl
      cases e3
      cases r with
      | tup h1 h2=>
        rw [iQ ey] at h2
        rw [jU h2] at h1
        exact ⟨x,_,ys,rfl,rfl, .inr h1,by omega,q _ _ ⟨F,A',fr2.push ⟨rfl,_,rfl, .str _⟩⟩⟩
    · cases e3
  · cases e3
end
theorem sg {X:Cx} {st:Stmt}:SX X st (fun _=>none):=gX qH fun D σ H z=>by
  obtain ⟨B,E,xs,Xs,E',fl,fr,cl,e,q⟩:=z
  cases e
def wJ:bP:=fun _=>none
end PL
namespace PL
open PySem L2 Nh
def jt (i:Nat) (f:bY):bY:=fun E=>match E[i]? with
  | some (.ow _)=>(f E).bind fun a=>match a.1,a.2[i]? with
    | .ow es,some (.ow ds)=>if ds.length+es.length≤1000000 then some (.sh .none,a.2.set i (.ow (ds++es))) else none
    | _,_=>none
  | _=>none
section
variable {X:Cx} {e:Expr} {m1:Bool} {f:bY} {x:Str} {p apos cpos:Pos}
theorem p4 (i:Nat) (he:EX X e m1 f) (hN:X.N[i]? =some x:=by rfl) (hv:vR X.env.scope x:=by first | exact Or.inl rfl | exact Or.inr (Or.inl rfl) | exact Or.inr (Or.inr rfl)) (hd:(x == ("__debug__":Str))=false:=by decide) (hcd:(x == ("__classdict__":Str))=false:=by decide)
    (hs:starEach [e] X.env=[(false,eval e X.env)]:=by rfl) (hbase:attributeBase (.Name x p) "extend" X.env (eval (.Name x p) X.env)=eval (.Name x p) X.env:=by rfl)
    (hfew:((backTo cpos (starEach [e] X.env)).all (fun x=> !x.1)&&(backToKw cpos (keywordEach [] X.env)).all (fun x=>x.1.isSome)
      &&decide (([e]:List Expr).length+([]:List Keyword).length+(if ([]:List Keyword).isEmpty then 0 else 1) < 30))=true:=by rfl) (hline:(apos.endLine == cpos.line)=true:=by rfl):
    EX X (.Call (.Attribute (.Name x p) "extend" apos) [e] [] cpos) true (jt i f):=by
  refine bq (q9 PySem.F.plainAttrs_list PySem.F.slot_list_extend PySem.F.type_list_extend pO (jB hN hv hd hcd) (bi he cQ hs) hbase hfew hline hs rfl) fun σ H Q z=>?_
  obtain ⟨B,E,xs,Xs,res,E',⟨F,A,fr⟩,cl,e,q⟩:=z
  unfold jt at e
  split at e
  · rename_i ds0 ei
    obtain ⟨⟨s,E1⟩,e1,e⟩:=Option.bind_eq_some_iff.mp e
    simp only at e
    split at e
    · rename_i s1 es ds ei2
      split at e
      · rename_i hc
        cases e
        obtain ⟨o,A1,eo,l,vs,rfl,rfl,hl0,_⟩:=fr.var ei
        refine ⟨_,eo, .inl ⟨rfl,_,SqL.of hl0⟩,B,E,xs,Xs,_,E1,⟨F,A,fr⟩,fun _=>cl rfl,e1,fun v H1 ⟨F1,A1,fr1⟩=>?_⟩
        obtain ⟨v',A3,ev,l2,us,el,rfl,hl2,ru⟩:=fr1.ext (k:=0) rfl
        cases ev;cases el
        obtain ⟨A4,fr3⟩:=fr1.pop
        obtain ⟨l',vs',eo',hl',r',put⟩:=fr3.mut ei2 (cl rfl)
        rw [eo] at eo'
        cases eo'
        have n1:=r'.len
        have n2:=ru.len
        have fr4:=put (vs'++us) (ds++es) (r'.append ru)
        exact ⟨l,l2,vs',us,rfl,rfl,hl',hl2,fP (by omega),q _ _ ⟨_,_,fr4.push ⟨rfl,_,rfl, .non⟩⟩⟩
      · cases e
    · cases e
  · cases e
end
def wK (K:PySem.W.Frag) (c:List PyData→List PyData→Option (Sl×List PyData)):Sp:=fun vs H Q _=>∃l us ds0 bD ds r ds',vs= .ref l::bD∧H l=some (.lst us)∧RpA K (tups H) us ds0∧RpA K H bD ds∧c ds0 ds=some (r,ds')∧
  ∀v H' us',SameBut l H H'→H' l=some (.lst us')→RpA K (tups H') us' ds'→i6 K H H' v r→Q v H'
def eI (i:Nat) (c:List PyData→List PyData→Option (Sl×List PyData)) (g:kP):bY:=fun E=>match E[i]? with
  | some (.ow _)=>(g E).bind fun a=>match a.2[i]? with
    | some (.ow ds0)=>if aZ ds0 then (aF a.2 a.1).bind fun ds=>(c ds0 ds).map fun r=>(r.1,a.2.set i (.ow r.2)) else none
    | _=>none
  | _=>none
section
variable {K:PySem.W.Frag} {B F:Hp} {A:List Addr} {σ:iC} {H H':Hp} {E:List Sl} {xs:List V} {Xs:List Sl}
theorem FrF.mutGrow {i:Nat} {ds ds':List PyData} {l:Addr} {us us':List V} (h:FrF K B F A σ H E xs Xs) (e:E[i]? =some (.ow ds)) (c:Calm Xs) (el:σ[i]? =some (some (.ref l))) (hl:H l=some (.lst us)) (sb:SameBut l H H') (hl':H' l=some (.lst us')) (r:RpA K (tups H') us' ds'):
    ∃F',FrF K B F' A σ H' (E.set i (.ow ds')) xs Xs:=by
  have g:Same H (upd H' l (.lst us)):=fun b o q=>by
    by_cases eb:b=l
    · subst eb;rw [upd_same,←hl];exact q
    · rw [am eb];exact sb b o eb q
  have h1:=h.grow g
  obtain ⟨l1,us1,el1,hl1,r1,put⟩:=h1.mut e c
  rw [el] at el1
  cases el1
  have r2:RpA K _ us' ds':=RpA.same h1.tf (by rw [jI hl'];exact r)
  have h2:=put us' ds' r2
  have eH:upd (upd H' l (.lst us)) l (.lst us')=H':=by
    rw [jp]
    funext b
    by_cases eb:b=l
    · subst eb;rw [upd_same,hl']
    · rw [am eb]
  rw [eH] at h2
  exact ⟨_,h2⟩
end
theorem FrF.toldIO {K:PySem.W.Frag} {B F:Hp} {A:List Addr} {σ:iC} {H H':Hp} {E:List Sl} {xs:List V} {Xs:List Sl} {v:V} {d:PyData} (h:FrF K B F A σ H' E xs Xs) (q:i6 K H H' v (.sh d)):Frm K B σ H' E (v::xs) (.sh d::Xs):=⟨F,A,h.push ⟨rfl,v,rfl,Rp.same h.tf q⟩⟩
theorem si {X:Cx} (i:Nat) {k:Nat} {x y:Str} {ps:List Str} {c:List PyData→List PyData→Option (Sl×List PyData)} {p p2 pos:Pos} {es:List Expr} {m:Bool} {g:kP} (D:Own X.prog X.w X.K X.mg X.base k x ps (wK X.K c)) (hc:∀ds0 ds r,c ds0 ds=some r→∃d,r.1= .sh d) (hr:Room k X.A) (hg:Gl X x) (ha:AX X es m g)
    (hN:X.N[i]? =some y:=by rfl) (hv:vR X.env.scope y:=by first | exact Or.inl rfl | exact Or.inr (Or.inl rfl) | exact Or.inr (Or.inr rfl)) (hd:(y == ("__debug__":Str))=false:=by decide) (hcd:(y == ("__classdict__":Str))=false:=by decide)
    (hdb:(x == ("__debug__":Str))=false:=by decide) (he:starEach (.Name y p2::es) X.env=(false,eval (.Name y p2) X.env)::starEach es X.env:=by rfl) (hpl:(backTo pos (starEach es X.env)).any (·.1)=false:=by rfl):
    EX X (.Call (.Name x p) (.Name y p2::es) [] pos) true (eI i c g):=by
  refine bq (rq D hr hg (bi (jB hN hv hd hcd) ha he) hdb he hpl) fun σ H Q z=>?_
  obtain ⟨B,E,xs,Xs,res,E',⟨F,A,fr⟩,cl,e,q⟩:=z
  unfold eI at e
  split at e
  · rename_i ds0 ei
    obtain ⟨⟨rs,E1⟩,e1,e⟩:=Option.bind_eq_some_iff.mp e
    simp only at e
    split at e
    · rename_i ds1 ei1
      split at e
      · rename_i hf
        obtain ⟨ds,e2,e⟩:=Option.bind_eq_some_iff.mp e
        obtain ⟨⟨r,ds'⟩,e3,e⟩:=Option.map_eq_some_iff.mp e
        obtain ⟨d,ed⟩:=hc _ _ _ e3
        simp only at ed
        subst ed
        cases e
        obtain ⟨o,A1,eo,l,vs,rfl,rfl,hl0,_⟩:=fr.var ei
        refine ⟨_,eo,B,E,xs,Xs,rs,E1,⟨F,A,fr⟩,fun _=>cl rfl,e1,fun us H1 hl ⟨F1,A1,fr1⟩=>?_⟩
        obtain ⟨r1,A',fr2⟩:=fr1.looks hl e2
        obtain ⟨l',vs',eo',hl',r',_⟩:=fr2.mut ei1 (cl rfl)
        rw [eo] at eo'
        cases eo'
        refine ⟨l,vs',ds1,us,ds, .sh d,ds',by rw [List.append_nil],hl',(r'.same fr2.fh).cold hf,r1,e3,fun v H' us' sb h1 h2 h3=>?_⟩
        obtain ⟨F',fr3⟩:=fr2.mutGrow ei1 (cl rfl) eo hl' sb h1 h2
        exact q _ _ (fr3.toldIO h3)
      · cases e
    · cases e
  · cases e
structure Bn (mg:Str→Option Value):Prop where
  len:mg "len"=none
  range:mg "range"=none
  abs:mg "abs"=none
  min:mg "min"=none
  max:mg "max"=none
  reversed:mg "reversed"=none
  enumerate:mg "enumerate"=none
  isinstance:mg "isinstance"=none
  list:mg "list"=none
  tuple:mg "tuple"=none
  str:mg "str"=none
  int:mg "int"=none
  bool:mg "bool"=none
  sorted:mg "sorted"=none
  zip:mg "zip"=none
  sum:mg "sum"=none
  any:mg "any"=none
  all:mg "all"=none
  set:mg "set"=none
  dict:mg "dict"=none
theorem yo {K:PySem.W.Frag} {h:Heap} {mg:Str→Option Value} (X:K.In h) (G:h.Ns mainGlobals mg)
    (z1:PySem.W.nsIn K mainGlobals "len"=some none) (z2:PySem.W.nsIn K mainGlobals "range"=some none) (z3:PySem.W.nsIn K mainGlobals "abs"=some none) (z4:PySem.W.nsIn K mainGlobals "min"=some none) (z5:PySem.W.nsIn K mainGlobals "max"=some none) (z6:PySem.W.nsIn K mainGlobals "reversed"=some none) (z7:PySem.W.nsIn K mainGlobals "enumerate"=some none) (z8:PySem.W.nsIn K mainGlobals "isinstance"=some none) (z9:PySem.W.nsIn K mainGlobals "list"=some none) (z10:PySem.W.nsIn K mainGlobals "tuple"=some none) (z11:PySem.W.nsIn K mainGlobals "str"=some none) (z12:PySem.W.nsIn K mainGlobals "int"=some none) (z13:PySem.W.nsIn K mainGlobals "bool"=some none) (z14:PySem.W.nsIn K mainGlobals "sorted"=some none) (z15:PySem.W.nsIn K mainGlobals "zip"=some none) (z16:PySem.W.nsIn K mainGlobals "sum"=some none) (z17:PySem.W.nsIn K mainGlobals "any"=some none) (z18:PySem.W.nsIn K mainGlobals "all"=some none) (z19:PySem.W.nsIn K mainGlobals "set"=some none) (z20:PySem.W.nsIn K mainGlobals "dict"=some none):Bn mg:=
  ⟨PySem.W.mg_none_of X G z1,PySem.W.mg_none_of X G z2,PySem.W.mg_none_of X G z3,PySem.W.mg_none_of X G z4,PySem.W.mg_none_of X G z5,PySem.W.mg_none_of X G z6,PySem.W.mg_none_of X G z7,PySem.W.mg_none_of X G z8,PySem.W.mg_none_of X G z9,PySem.W.mg_none_of X G z10,PySem.W.mg_none_of X G z11,PySem.W.mg_none_of X G z12,PySem.W.mg_none_of X G z13,PySem.W.mg_none_of X G z14,PySem.W.mg_none_of X G z15,PySem.W.mg_none_of X G z16,PySem.W.mg_none_of X G z17,PySem.W.mg_none_of X G z18,PySem.W.mg_none_of X G z19,PySem.W.mg_none_of X G z20⟩
end PL
namespace PL
open PySem L2 Nh
abbrev AK:=List Sl→Option (List Sl×Bool)
end PL
namespace PL
open PySem L2 Nh
section
variable {K:PySem.W.Frag} {F H:Hp}
theorem PtsOk.append:∀{us:List V} {ts:List Pt} {A:List Addr} {us':List V} {ts':List Pt} {A':List Addr},PtsOk K F H us ts A→PtsOk K F H us' ts' A'→PtsOk K F H (us++us') (ts++ts') (A++A')
  | [],[],A,_,_,_,h,h'=>by rw [show A=[] from h];exact h'
  | v::vs, .fl d::ps,A,_,_,_,h,h'=>⟨h.1,PtsOk.append h.2 h'⟩
  | v::vs, .ol ds::ps,A,_,_,_,h,h'=>by
    obtain ⟨l,us,A1,rfl,rfl,hl,hr,q⟩:=h
    exact ⟨l,us,_,rfl,rfl,hl,hr,q.append h'⟩
  | [],_::_,_,_,_,_,h,_=>False.elim h
  | _::_,[],_,_,_,_,h,_=>False.elim h
theorem PtsOk.rev:∀{us:List V} {ts:List Pt} {A:List Addr},PtsOk K F H us ts A→PtsOk K F H us.reverse ts.reverse A.reverse
  | [],[],A,h=>by rw [show A=[] from h];exact rfl
  | v::vs, .fl d::ps,A,h=>by
    rw [List.reverse_cons,List.reverse_cons,←List.append_nil A.reverse]
    exact (PtsOk.rev h.2).append (us':=[v]) (ts':=[.fl d]) (A':=[]) ⟨h.1,rfl⟩
  | v::vs, .ol ds::ps,A,h=>by
    obtain ⟨l,us,A1,rfl,rfl,hl,hr,q⟩:=h
    rw [List.reverse_cons,List.reverse_cons,List.reverse_cons]
    exact q.rev.append (us':=[.ref l]) (ts':=[.ol ds]) (A':=[l]) ⟨l,us,[],rfl,rfl,hl,hr,rfl⟩
  | [],_::_,_,h=>False.elim h
  | _::_,[],_,h=>False.elim h
theorem PtsOk.len:∀{us:List V} {ts:List Pt} {A:List Addr},PtsOk K F H us ts A→us.length=ts.length
  | [],[],A,_=>rfl
  | v::vs, .fl d::ps,A,h=>congrArg (· +1) h.2.len
  | v::vs, .ol ds::ps,A,h=>by
    obtain ⟨l,us,A1,rfl,rfl,hl,hr,q⟩:=h
    exact congrArg (· +1) q.len
  | [],_::_,_,h=>False.elim h
  | _::_,[],_,h=>False.elim h
end
abbrev AL:=List Sl→Option (List Pt×List Sl)
end PL
namespace PL
open PySem PySem.Spec L2 Nh PyProof.Rows
def Am (i:Int):Prop:= -1000000≤i∧i≤1000000
instance (i:Int):Decidable (Am i):=inferInstanceAs (Decidable (_∧_))
end PL
namespace PL
open PySem PySem.SeqAt
open AutoSeq1 (wpAny_loadPart')
open MeetsSeq MeetsSeq2 MeetsSeq3 SeqRoads2
def RcLtAt (A:Around) (s:Shared) (y x:Value) (b:Bool):Prop:=
  ∀(prog:Program) (w:World) (E:Value→Shared→Prop) (Q:Value→Shared→Prop),Q (.bool b) s→wpAny (model prog w) A (richCompare .Lt y x) Q E s
def iS (e r:Nat→Bool) (fin:Bool):List Nat→Bool
  | []=>fin
  | j::js=>if e j then iS e r fin js else r j
theorem p5 (l b:Addr) (items items2:Array Value) (n n2:Nat) (dd dd2:Option Addr) (sl sl2:Array (Option Value)) (e r:Nat→Bool) (k:Nat):
    ∀i:Nat,min items.size items2.size - i=k→Meets (Builtin.«list.__eq__.loop» ⟨[.ref l, .ref b,rawInt i,rawInt 0],[]⟩)
      (fun A R s=>s.heap.get? l=some {cls:= .type "list",dict:=dd,data:= .seq items n,slots:=sl}∧s.heap.get? b=some {cls:= .type "list",dict:=dd2,data:= .seq items2 n2,slots:=sl2}∧
        (∀j (h1:j < items.size) (h2:j < items2.size),EqAt A.in1 s items[j] items2[j] (e j))∧(∀j (h1:j < items.size) (h2:j < items2.size),e j=false→RcLtAt A.in1 s items[j] items2[j] (r j))∧
        R (.ok (.ret (.bool (iS e r (decide (items.size < items2.size)) ((List.range (min items.size items2.size)).drop i))))) s):=by
  induction k with
  | zero=>
    intro i hk prog w A R s h
    obtain ⟨hp,g,d,tk,os⟩:=s;obtain ⟨hl,hb,he,hr,h⟩:=h
    wp_walk using wpAny_loadPart' hl,wpAny_loadPart' hb
    have hd:(List.range (min items.size items2.size)).drop i=[]:=by simp;omega
    rw [hd] at h
    have hi:items[((i:Nat):Int).toNat]? =none∨items2[((i:Nat):Int).toNat]? =none:=by
      simp
      omega
    have fin:R (.ok (.ret (.bool (decide (items.size < items2.size))))) ⟨hp,g,d,tk,os⟩:=h
    rcases h1:items[((i:Nat):Int).toNat]? with _ | x1
    · wp_walk using wpAny_loadPart' hl,wpAny_loadPart' hb
      exact fin
    · rcases h2:items2[((i:Nat):Int).toNat]? with _ | x2
      · wp_walk using wpAny_loadPart' hl,wpAny_loadPart' hb
        exact fin
      · rw [h1,h2] at hi
        rcases hi with hi | hi <;> cases hi
  | succ k ih=>
    intro i hk prog w A R s h
    obtain ⟨hp,g,d,tk,os⟩:=s;obtain ⟨hl,hb,he,hr,h⟩:=h
    wp_walk using wpAny_loadPart' hl,wpAny_loadPart' hb
    have hm:i < min items.size items2.size:=by omega
    have hlt:i < items.size:=by omega
    have hlt2:i < items2.size:=by omega
    have hi1:items[((i:Nat):Int).toNat]? =some items[i]:=by simp [hlt]
    have hi2:items2[((i:Nat):Int).toNat]? =some items2[i]:=by simp [hlt2]
    have hd:(List.range (min items.size items2.size)).drop i=i::(List.range (min items.size items2.size)).drop (i+1):=by simp [List.drop_eq_getElem_cons,hm]
    have hc:((i:Int)+1)=((i+1:Nat):Int):=by push_cast;rfl
    rw [hd,iS] at h
    rw [hi1,hi2]
    refine wpAny_bind (he i hlt hlt2 prog w _ _ ?_)
    cases hb':e i with
    | true=>
      rw [hb',if_pos rfl] at h
      wp_walk
      rw [hc]
      exact ⟨plainId_quiet plain_eq_loop _,codeAny_builtin entry_eq_loop (by
        rw [Around.under_plainId plain_eq_loop _]
        exact ih (i+1) (by omega) prog w A R _ ⟨hl,hb,he,hr,h⟩)⟩
    | false=>
      rw [hb',if_neg (by decide)] at h
      wp_walk using wpAny_loadPart' hl,wpAny_loadPart' hb
      rw [hi1,hi2]
      refine wpAny_bind (hr i hlt hlt2 hb' prog w _ _ ?_)
      wp_walk
      exact h
theorem p6 (l b:Addr) (items items2:Array Value) (n n2:Nat) (dd dd2:Option Addr) (sl sl2:Array (Option Value)) (e r:Nat→Bool):
    Meets (Builtin.«list.__lt__» ⟨[.ref l, .ref b],[]⟩)
      (fun A R s=>s.heap.get? l=some {cls:= .type "list",dict:=dd,data:= .seq items n,slots:=sl}∧s.heap.get? b=some {cls:= .type "list",dict:=dd2,data:= .seq items2 n2,slots:=sl2}∧
        (∀j (h1:j < items.size) (h2:j < items2.size),EqAt A.in1 s items[j] items2[j] (e j))∧(∀j (h1:j < items.size) (h2:j < items2.size),e j=false→RcLtAt A.in1 s items[j] items2[j] (r j))∧
        R (.ok (.ret (.bool (iS e r (decide (items.size < items2.size)) (List.range (min items.size items2.size)))))) s):=by
  intro prog w A R s h
  obtain ⟨hp,g,d,tk,os⟩:=s;obtain ⟨hl,hb,he,hr,h⟩:=h
  have f3:=AutoSeq1.sub_list_list
  wp_walk using wpAny_loadPart' hl,wpAny_loadPart' hb
  exact ⟨plainId_quiet plain_eq_loop _,codeAny_builtin entry_eq_loop (by
    rw [Around.under_plainId plain_eq_loop _]
    exact p5 l b items items2 n n2 dd dd2 sl sl2 e r _ 0 rfl prog w A R _ ⟨hl,hb,he,hr,by simpa using h⟩)⟩
theorem oa (l b:Addr) (items items2:Array Value) (n n2:Nat) (dd dd2:Option Addr) (sl sl2:Array (Option Value)) (e r:Nat→Bool):
    Meets (Builtin.«tuple.__lt__» ⟨[.ref l, .ref b],[]⟩)
      (fun A R s=>s.heap.get? l=some {cls:= .type "tuple",dict:=dd,data:= .seq items n,slots:=sl}∧s.heap.get? b=some {cls:= .type "tuple",dict:=dd2,data:= .seq items2 n2,slots:=sl2}∧
        (∀j (h1:j < items.size) (h2:j < items2.size),EqAt A.in1 s items[j] items2[j] (e j))∧(∀j (h1:j < items.size) (h2:j < items2.size),e j=false→RcLtAt A.in1 s items[j] items2[j] (r j))∧
        R (.ok (.ret (.bool (iS e r (decide (items.size < items2.size)) (List.range (min items.size items2.size)))))) s):=
  .of_wp fun prog w A R s h=>by
    obtain ⟨hp,g,d,tk,os⟩:=s;obtain ⟨hl,hb,he,hr,h⟩:=h
    have f2:=AutoSeq1.sub_tuple_tuple
    have hZ:(items.toList.zip items2.toList).length=min items.size items2.size:=by simp
    wp_walk using wpAny_loadPart' hl,wpAny_loadPart' hb,wpAny_forIn_list _ (fun bD b s'=>b.1=none∧s'=⟨hp,g,d,tk,os⟩∧∃i,bD=(items.toList.zip items2.toList).drop i∧
      R (.ok (.ret (.bool (iS e r (decide (items.size < items2.size)) ((List.range (min items.size items2.size)).drop i))))) ⟨hp,g,d,tk,os⟩) _
    case turn=>
      rintro ⟨y,x⟩ bD b s' ⟨hb',rfl,i,hz,hR⟩
      have hlt:i < (items.toList.zip items2.toList).length:=by
        rcases Nat.lt_or_ge i (items.toList.zip items2.toList).length with h' | h'
        · exact h'
        · rw [List.drop_of_length_le h'] at hz;cases hz
      have hm:i < min items.size items2.size:=hZ▸hlt
      have h1:i < items.size:=Nat.lt_of_lt_of_le hm (Nat.min_le_left _ _)
      have h2:i < items2.size:=Nat.lt_of_lt_of_le hm (Nat.min_le_right _ _)
      rw [List.drop_eq_getElem_cons hlt] at hz
      injection hz with hyx hrest
      have hy:y=items[i]:=by have:=congrArg Prod.fst hyx;simpa using this
      have hx:x=items2[i]:=by have:=congrArg Prod.snd hyx;simpa using this
      subst hy hx
      have hd:(List.range (min items.size items2.size)).drop i=i::(List.range (min items.size items2.size)).drop (i+1):=by simp [List.drop_eq_getElem_cons,hm]
      rw [hd,iS] at hR
      refine wpAny_bind (he i h1 h2 prog w _ _ ?_)
      cases hy:e i with
      | true=>
        rw [hy,if_pos rfl] at hR
        wp_walk
        exact ⟨rfl,rfl,i+1,hrest,hR⟩
      | false=>
        rw [hy,if_neg (by decide)] at hR
        rw [show (!false)=true from rfl,if_pos rfl]
        refine wpAny_bind (wpAny_rule (wpAny_bind (hr i h1 h2 hy prog w _ _ ?_)))
        wp_walk
        exact ⟨_,rfl,hR⟩
    case fin=>
      rintro ⟨b1,b2⟩ s' ⟨hb',rfl,i,hz,hR⟩
      simp only at hb'
      subst hb'
      have hge:min items.size items2.size≤i:=by
        rcases Nat.lt_or_ge i (items.toList.zip items2.toList).length with h' | h'
        · rw [List.drop_eq_getElem_cons h'] at hz;cases hz
        · exact hZ▸h'
      rw [List.drop_of_length_le (by simpa using hge)] at hR
      wp_walk
      exact ⟨_,rfl,hR⟩
    case h=>
      exact ⟨rfl,rfl,0,rfl,by simpa using h⟩
section
variable {A:Around} {s:Shared}
theorem RcLtAt.lists {l b:Addr} {items items2:Array Value} {e r:Nat→Bool} (hl:s.heap.IsList l items) (hb:s.heap.IsList b items2) (hu:A.units < cLine)
    (he:∀j (h1:j < items.size) (h2:j < items2.size),EqAt A.in1 s items[j] items2[j] (e j)) (hr:∀j (h1:j < items.size) (h2:j < items2.size),e j=false→RcLtAt A.in1 s items[j] items2[j] (r j)):RcLtAt A s (.ref l) (.ref b) (iS e r (decide (items.size < items2.size)) (List.range (min items.size items2.size))):=fun prog w E Q h=>by
  obtain ⟨⟨cls,dd,data,sl⟩,ho,hc,n,hd⟩:=id hl
  obtain ⟨⟨cls2,dd2,data2,sl2⟩,ho2,hc2,n2,mL⟩:=id hb
  simp only at hc hd hc2 mL
  subst hc hd hc2 mL
  exact richCompare_meets_room (op:= .Lt) ⟨_,ho,rfl⟩ ⟨_,ho2,rfl⟩ F.slot_list_lt F.entry_list_lt (F.args_list_lt_2 _ _) (p6 l b items items2 n n2 dd dd2 sl sl2 e r)
    ⟨ho,ho2,he,hr,show Value.bool _≠Value.notImplemented∧Q (.bool _) s from ⟨(fun x=>nomatch x),h⟩⟩ hu
theorem RcLtAt.tuples {l b:Addr} {items items2:Array Value} {e r:Nat→Bool} (hl:s.heap.IsTuple l items) (hb:s.heap.IsTuple b items2) (hu:A.units < cLine)
    (he:∀j (h1:j < items.size) (h2:j < items2.size),EqAt A.in1 s items[j] items2[j] (e j)) (hr:∀j (h1:j < items.size) (h2:j < items2.size),e j=false→RcLtAt A.in1 s items[j] items2[j] (r j)):RcLtAt A s (.ref l) (.ref b) (iS e r (decide (items.size < items2.size)) (List.range (min items.size items2.size))):=fun prog w E Q h=>by
  obtain ⟨⟨cls,dd,data,sl⟩,ho,hc,n,hd⟩:=id hl
  obtain ⟨⟨cls2,dd2,data2,sl2⟩,ho2,hc2,n2,mL⟩:=id hb
  simp only at hc hd hc2 mL
  subst hc hd hc2 mL
  exact richCompare_meets_room (op:= .Lt) ⟨_,ho,rfl⟩ ⟨_,ho2,rfl⟩ F.slot_tuple_lt F.entry_tuple_lt (F.args_tuple_lt_2 _ _) (oa l b items items2 n n2 dd dd2 sl sl2 e r)
    ⟨ho,ho2,he,hr,show Value.bool _≠Value.notImplemented∧Q (.bool _) s from ⟨(fun x=>nomatch x),h⟩⟩ hu
theorem RcLtAt.ints (i j:Int) (t u:Tok):RcLtAt A s (.int i t) (.int j u) (decide (i < j)):=fun prog w E Q h=>PyProof.Rows.lt_int h
end
end PL
namespace PL
open PySem PySem.SeqAt L2 Nh
abbrev xE:=PyData→PyData→Option Bool
def zY:xE
  | .int i, .int j=>some (decide (i < j))
  | .str a, .str b=>some (decide (a.cps.toList < b.cps.toList))
  | _,_=>none
def uG (lt:xE):List PyData→List PyData→Option Bool
  | [],ys=>some (!ys.isEmpty)
  | _::_,[]=>some false
  | x::xs,y::ys=>if PyData.eqv x y then uG lt xs ys else (lt x y).bind fun b=>(uG lt xs ys).map fun _=>b
def zZ (lt:xE):xE
  | .list xs, .list ys=>uG lt xs ys
  | .tuple xs, .tuple ys=>uG lt xs ys
  | d,e=>zY d e
def rF (lt:xE) (xs ys:List PyData) (j:Nat):Bool:=match xs[j]?,ys[j]? with
  | some x,some y=>(lt x y).getD false
  | _,_=>false
def zW:xE:=zZ (zZ zY)
end PL
namespace PL
open PySem L2 Nh
def ie:List PyData→Option (List Bool)
  | []=>some []
  | .bool b::ds=>(ie ds).map (b:: ·)
  | _=>none
theorem ng {K:PySem.W.Frag} {H:Hp}:∀{vs:List V} {ds:List PyData} {bs:List Bool},RpA K H vs ds→ie ds=some bs→vs=bs.map V.bl
  | _,_,bs, .nil,e=>by cases e;rfl
  | _,_,bs, .cons (d:=d) h t,e=>by
    cases d <;> simp [ie] at e
    obtain ⟨cs,e,rfl⟩:=e
    cases h
    rw [ng t e]
    rfl
section
variable {X:Cx} {e:Expr} {es:List Expr} {m1:Bool} {g:kP} {p pos:Pos}
def wL (K:PySem.W.Frag):List V→Hp→VK→Prop:=fun xs H Q=>∃(p:Addr) (ns:List Int),xs=[.ref p]∧SqL K H p (ns.map V.int)∧Q (.int ns.sum) H
theorem fI:∀{ns:List Int} {us:List Value},Vals (ns.map V.int) us→us.length=ns.length∧∀(i:Nat) (v:Value),us[i]? =some v→∃t,v=Value.int (ns.getD i 0) t
  | [],_, .nil=>⟨rfl,fun i v h=>by simp at h⟩
  | n::ns,_, .cons h t=>by
    obtain ⟨tk,rfl⟩:=h
    obtain ⟨h1,h2⟩:=fI t
    refine ⟨by simp [h1],fun i v h=>?_⟩
    cases i with
    | zero=>simp at h;subst h;exact ⟨tk,rfl⟩
    | succ i=>simpa using h2 i v (by simpa using h)
theorem i9 (ns:List Int):∀k,k≤ns.length→preSum (fun i=>ns.getD i 0) k=(ns.take k).sum
  | 0,_=>by simp [preSum]
  | k+1,h=>by
    have hk:k < ns.length:=by omega
    rw [preSum,i9 ns k (by omega),List.take_add_one,List.getElem?_eq_getElem hk,List.sum_append]
    simp [List.getD_eq_getElem?_getD,hk]
theorem p7 (hc:X.calm=true):CallR X (.builtin "sum") (wL X.K):=by
  intro pins s σ H xs us Q I r h
  obtain ⟨a,ns,rfl,hq,q⟩:=h
  cases r with
  | cons r rr=>
    cases rr
    cases r
    obtain ⟨its,rv,pl,hz⟩:=I.list hq
    obtain ⟨hl,hv⟩:=fI rv
    obtain ⟨o,n,eo,_⟩:=id pl
    have hlt:a < s.heap.objs.size:=Heap.lt_size eo
    refine call_sum_walkG (wpAny_pyIter_list pl.isList ?_)
    refine ⟨s.heap.objs.size,_,_,_,_,_,fun i=>ns.getD i 0,rfl,Walks.list (A:=X.A.in1) (I.ok.hd hc) s.heap.objs.size a (Nat.ne_of_lt hlt) its.toArray,?_,?_,?_,?_⟩
    · exact ⟨⟨_,Heap.get?_push_size _ rfl,rfl,rfl⟩,pl.isList.at fun o e=>Heap.get?_push_of_some _ e⟩
    · intro b hb
      have hsz:∀o,(s.heap.push o).objs.size=s.heap.objs.size+1:=fun o=>by simp [Heap.push]
      show b < (s.heap.push _).objs.size
      rw [hsz]
      rcases List.mem_cons.mp hb with rfl | hb
      · exact Nat.lt_succ_self _
      · have:b=a:=by simpa using hb
        subst this
        exact Nat.lt_succ_of_lt hlt
    · intro i v h
      exact hv i v (by simpa using h)
    · intro h' tk t' hk
      refine ⟨.int _,H,I.kept (t':=tk) fun b o e=>hk b o (fun z=>?_) (Heap.get?_push_of_some _ e),⟨t',rfl⟩,?_⟩
      · have:b=s.heap.objs.size:=by simpa using z
        exact Nat.lt_irrefl _ (this▸Heap.lt_size e)
      · rw [show its.toArray.size=ns.length by simpa using hl,i9 ns _ (Nat.le_refl _),List.take_length]
        exact q
end
end PL
namespace PL
open PySem L2 Nh
def ig:PyData→PyData→Option PyData
  | .str a, .int k=>if a.length≤1000∧ -1000≤k∧k≤1000 then some (.str (Txt.mul a k)) else none
  | _,_=>none
def gl:P2:=dD ig
def vB:R2:=fun x y H Q=>∃a k,x= .str a∧y= .int k∧a.length≤1000∧ -1000≤k∧k≤1000∧Q (.str (Txt.mul a k)) H
theorem sj {a:Str} {k:Int} (h1:a.length≤1000) (h2:k≤1000):(Txt.mul a k).length≤sizeLine:=by
  have e:=PyProof.Rows.len_mul a k
  rw [sizeLine_eq]
  by_cases n:k < 0
  · simp only [n,decide_true,if_true,Int.mul_zero] at e
    omega
  · simp only [n,decide_false,Bool.false_eq_true,if_false] at e
    have:(a.length:Int)*k≤1000*1000:=Int.mul_le_mul (by omega) h2 (by omega) (by omega)
    omega
theorem uH {X:Cx}:OpR X (binaryOp .Mult) vB:=by
  intro pins s σ H x y v u Q I rx ry h
  obtain ⟨a,k,rfl,rfl,h1,h2,h3,q⟩:=h
  obtain ⟨t,rfl⟩:=rx
  obtain ⟨u,rfl⟩:=ry
  obtain ⟨o1,o2,o3⟩:=PyProof.Rows.mulOk_of (x:=a) (n:=k) 1000 1000 h1 h3 (by omega) (by decide) (by decide)
  refine P.mul_str o1 o2 o3 ?_
  have hz:=sj h1 h3
  unfold Txt.mul at hz q
  by_cases c1:k < 1
  · rw [if_pos c1] at hz q ⊢
    exact ⟨hz, .str _,H,I.tok _,⟨_,rfl⟩,q⟩
  · rw [if_neg c1] at hz q ⊢
    by_cases c2:(k == 1||a.length == 0)=true
    · rw [if_pos c2] at hz q ⊢
      exact ⟨.str _,H,I,⟨_,rfl⟩,q⟩
    · rw [if_neg c2] at hz q ⊢
      exact ⟨hz, .str _,H,I.tok _,⟨_,rfl⟩,q⟩
section
variable {X:Cx} {K:PySem.W.Frag} {a b:Expr} {m1 m2:Bool} {f g:bY} {pos:Pos}
theorem sk:pT K vB ig:=fun d1 d2 d v1 v2 H Q e r1 r2=>by
  unfold ig at e
  split at e
  · split at e
    · rename_i hc
      cases e;cases r1;cases r2
      exact ⟨_,rfl,fun q=>⟨_,_,rfl,rfl,hc.1,hc.2.1,hc.2.2,q⟩⟩
    · cases e
  · cases e
theorem lW (ha:EX X a m1 f) (hb:EX X b m2 g):EX X (.BinOp a .Mult b pos) (m1||m2) (ah gl m2 f g):=jM uH (iJ sk) ha hb
end
end PL
namespace PL
open PySem L2 Nh
theorem pc {X:Cx} {x:Str} {i:Int} {t:Tok} {pos:Pos} (hg:Gl X x) (hm:X.mg x=some (.int i t)) (hd:(x == ("__debug__":Str))=false:=by decide):EX X (.Name x pos) false (pC (.int i)):=by
  refine bq (oN (v:= .int i) hg hm ⟨t,rfl⟩ hd) fun σ H Q z=>?_
  obtain ⟨B,E,xs,Xs,res,E',⟨F,A,fr⟩,cl,e,q⟩:=z
  cases e
  exact q _ _ ⟨F,A,fr.push ⟨rfl,_,rfl, .int _⟩⟩
end PL
namespace PL
open PySem PySem.SeqAt
open AutoSeq1 (wpAny_loadPart')
open MeetsSeq MeetsSeq2 MeetsSeq3 SeqRoads2
def RcGtAt (A:Around) (s:Shared) (y x:Value) (b:Bool):Prop:=
  ∀(prog:Program) (w:World) (E:Value→Shared→Prop) (Q:Value→Shared→Prop),Q (.bool b) s→wpAny (model prog w) A (richCompare .Gt y x) Q E s
theorem og (l b:Addr) (items items2:Array Value) (n n2:Nat) (dd dd2:Option Addr) (sl sl2:Array (Option Value)) (e r:Nat→Bool):
    Meets (Builtin.«tuple.__gt__» ⟨[.ref l, .ref b],[]⟩)
      (fun A R s=>s.heap.get? l=some {cls:= .type "tuple",dict:=dd,data:= .seq items n,slots:=sl}∧s.heap.get? b=some {cls:= .type "tuple",dict:=dd2,data:= .seq items2 n2,slots:=sl2}∧
        (∀j (h1:j < items.size) (h2:j < items2.size),EqAt A.in1 s items[j] items2[j] (e j))∧(∀j (h1:j < items.size) (h2:j < items2.size),e j=false→RcGtAt A.in1 s items[j] items2[j] (r j))∧
        R (.ok (.ret (.bool (iS e r (decide (items2.size < items.size)) (List.range (min items.size items2.size)))))) s):=
  .of_wp fun prog w A R s h=>by
    obtain ⟨hp,g,d,tk,os⟩:=s;obtain ⟨hl,hb,he,hr,h⟩:=h
    have f2:=AutoSeq1.sub_tuple_tuple
    have hZ:(items.toList.zip items2.toList).length=min items.size items2.size:=by simp
    wp_walk using wpAny_loadPart' hl,wpAny_loadPart' hb,wpAny_forIn_list _ (fun bD b s'=>b.1=none∧s'=⟨hp,g,d,tk,os⟩∧∃i,bD=(items.toList.zip items2.toList).drop i∧
      R (.ok (.ret (.bool (iS e r (decide (items2.size < items.size)) ((List.range (min items.size items2.size)).drop i))))) ⟨hp,g,d,tk,os⟩) _
    case turn=>
      rintro ⟨y,x⟩ bD b s' ⟨hb',rfl,i,hz,hR⟩
      have hlt:i < (items.toList.zip items2.toList).length:=by
        rcases Nat.lt_or_ge i (items.toList.zip items2.toList).length with h' | h'
        · exact h'
        · rw [List.drop_of_length_le h'] at hz;cases hz
      have hm:i < min items.size items2.size:=hZ▸hlt
      have h1:i < items.size:=Nat.lt_of_lt_of_le hm (Nat.min_le_left _ _)
      have h2:i < items2.size:=Nat.lt_of_lt_of_le hm (Nat.min_le_right _ _)
      rw [List.drop_eq_getElem_cons hlt] at hz
      injection hz with hyx hrest
      have hy:y=items[i]:=by have:=congrArg Prod.fst hyx;simpa using this
      have hx:x=items2[i]:=by have:=congrArg Prod.snd hyx;simpa using this
      subst hy hx
      have hd:(List.range (min items.size items2.size)).drop i=i::(List.range (min items.size items2.size)).drop (i+1):=by simp [List.drop_eq_getElem_cons,hm]
      rw [hd,iS] at hR
      refine wpAny_bind (he i h1 h2 prog w _ _ ?_)
      cases hy:e i with
      | true=>
        rw [hy,if_pos rfl] at hR
        wp_walk
        exact ⟨rfl,rfl,i+1,hrest,hR⟩
      | false=>
        rw [hy,if_neg (by decide)] at hR
        rw [show (!false)=true from rfl,if_pos rfl]
        refine wpAny_bind (wpAny_rule (wpAny_bind (hr i h1 h2 hy prog w _ _ ?_)))
        wp_walk
        exact ⟨_,rfl,hR⟩
    case fin=>
      rintro ⟨b1,b2⟩ s' ⟨hb',rfl,i,hz,hR⟩
      simp only at hb'
      subst hb'
      have hge:min items.size items2.size≤i:=by
        rcases Nat.lt_or_ge i (items.toList.zip items2.toList).length with h' | h'
        · rw [List.drop_eq_getElem_cons h'] at hz;cases hz
        · exact hZ▸h'
      rw [List.drop_of_length_le (by simpa using hge)] at hR
      wp_walk
      exact ⟨_,rfl,hR⟩
    case h=>
      exact ⟨rfl,rfl,0,rfl,by simpa using h⟩
section
variable {A:Around} {s:Shared}
theorem RcGtAt.tuples {l b:Addr} {items items2:Array Value} {e r:Nat→Bool} (hl:s.heap.IsTuple l items) (hb:s.heap.IsTuple b items2) (hu:A.units < cLine)
    (he:∀j (h1:j < items.size) (h2:j < items2.size),EqAt A.in1 s items[j] items2[j] (e j)) (hr:∀j (h1:j < items.size) (h2:j < items2.size),e j=false→RcGtAt A.in1 s items[j] items2[j] (r j)):RcGtAt A s (.ref l) (.ref b) (iS e r (decide (items2.size < items.size)) (List.range (min items.size items2.size))):=fun prog w E Q h=>by
  obtain ⟨⟨cls,dd,data,sl⟩,ho,hc,n,hd⟩:=id hl
  obtain ⟨⟨cls2,dd2,data2,sl2⟩,ho2,hc2,n2,mL⟩:=id hb
  simp only at hc hd hc2 mL
  subst hc hd hc2 mL
  exact richCompare_meets_room (op:= .Gt) ⟨_,ho,rfl⟩ ⟨_,ho2,rfl⟩ F.slot_tuple_gt F.entry_tuple_gt (F.args_tuple_gt_2 _ _) (og l b items items2 n n2 dd dd2 sl sl2 e r)
    ⟨ho,ho2,he,hr,show Value.bool _≠Value.notImplemented∧Q (.bool _) s from ⟨(fun x=>nomatch x),h⟩⟩ hu
theorem RcGtAt.ints (i j:Int) (t u:Tok):RcGtAt A s (.int i t) (.int j u) (decide (j < i)):=fun prog w E Q h=>PyProof.Rows.gt_int h
end
end PL
namespace Nh
open PySem L2
theorem NailsOk.stp {r:List Pc} {p:Pc} (h:NailsOk r) (hp:p.1 < 128):NailsOk (NH.stp r p):=by
  cases r with
  | nil=>
    show NailsOk (if p.2=0 then [] else [p])
    split
    · exact h
    · intro q hq;rw [List.mem_singleton.mp hq];exact hp
  | cons x r=>
    rw [NH.rh]
    intro q hq
    rcases List.mem_append.mp hq with h1 | h1
    · unfold NH.mL at h1
      split at h1
      · split at h1
        · cases h1
        · rw [List.mem_singleton.mp h1];exact hp
      · split at h1
        · rw [List.mem_singleton.mp h1];exact h x (List.mem_cons_self ..)
        · rcases List.mem_cons.mp h1 with h2 | h2
          · rw [h2];exact hp
          · rw [List.mem_singleton.mp h2];exact h x (List.mem_cons_self ..)
    · exact h q (List.mem_cons_of_mem _ h1)
theorem NailsOk.foldl:∀(c:List Pc) {r:List Pc},NailsOk r→NailsOk c→NailsOk (c.foldl NH.stp r)
  | [],_,h,_=>h
  | p::c,_,h,hc=>NailsOk.foldl c (h.stp (hc p (List.mem_cons_self ..))) fun q hq=>hc q (List.mem_cons_of_mem _ hq)
theorem NailsOk.take {c:List Pc} (h:NailsOk c) (i:Nat):NailsOk (c.take i):=fun p hp=>h p (List.mem_of_mem_take hp)
theorem NailsOk.drop {c:List Pc} (h:NailsOk c) (i:Nat):NailsOk (c.drop i):=fun p hp=>h p (List.mem_of_mem_drop hp)
theorem NailsOk.reverse {c:List Pc} (h:NailsOk c):NailsOk c.reverse:=fun p hp=>h p (List.mem_reverse.mp hp)
theorem NailsOk.append {c d:List Pc} (h:NailsOk c) (h':NailsOk d):NailsOk (c++d):=fun p hp=>(List.mem_append.mp hp).elim (h p) (h' p)
theorem NailsOk.contr {c:List Pc} (h:NailsOk c):NailsOk (NH.contr c):=fun p hp=>by
  obtain ⟨q,hq,e⟩:=List.mem_map.mp hp
  subst e
  exact h q (List.mem_reverse.mp hq)
end Nh
namespace Nh
open PySem L2 PL
theorem NailsOk.rep {c:List Pc} (h:NailsOk c) (k:Nat):NailsOk (List.replicate k c).flatten:=fun p hp=>by
  obtain ⟨l,hl,hpl⟩:=List.mem_flatten.mp hp
  rw [(List.mem_replicate.mp hl).2] at hpl
  exact h p hpl
def l4 (i:Int):Nat:=[97,98,99,122].getD i.toNat 97
theorem pd {i j:Int} (h1: -(2 ^ 64) < j) (h2:j < 2 ^ 64):bz i j=true:=by
  simp only [bz,Bool.or_eq_true,decide_eq_true_eq]
  exact .inl (.inr ⟨h1,h2⟩)
theorem dq {i j:Int} (h1: -(2 ^ 64) < i) (h2:i < 2 ^ 64):bz i j=true:=by
  simp only [bz,Bool.or_eq_true,decide_eq_true_eq]
  exact .inl (.inl ⟨h1,h2⟩)
theorem ii {j:Int} (h1:0 < j) (h2:j < 2 ^ 400):gr j=true:=decide_eq_true ⟨h1,h2⟩
theorem bR (i j:Int):mS (.int i) (.int j)=some (decide (i=j)):=rfl
end Nh
namespace L2
open PySem PySem.Spec PyProof.Rows
def pe (K:PySem.W.Frag) (h:Heap):Prop:=∀b q,jy K b=some q→h.get? b=some (PySem.W.tabObj #[])∧(∃c,PySem.W.CodeHd h c b)∧K.lookup b=none
def cu (K:PySem.W.Frag) (a:Addr) (so:Option HO):Hp:=fun b=>match jy K b with
  | some q=>some (.tbl q)
  | none=>if b=a then so else none
theorem oh {K:PySem.W.Frag} {a b:Addr} {so:Option HO} {q:Str} (e:jy K b=some q):cu K a so b=some (.tbl q):=by unfold cu;rw [e]
theorem p8 {K:PySem.W.Frag} {a:Addr} {so:Option HO} (e:jy K a=none):cu K a so a=so:=by unfold cu;rw [e];exact if_pos rfl
theorem dZ {K:PySem.W.Frag} {a b:Addr} {so:Option HO} {u:HO} (e:cu K a so b=some u):(∃q,jy K b=some q∧u= .tbl q)∨(b=a∧so=some u):=by
  unfold cu at e
  split at e
  · rename_i q h;cases e;exact .inl ⟨q,h,rfl⟩
  · by_cases hb:b=a
    · rw [if_pos hb] at e;exact .inr ⟨hb,e⟩
    · rw [if_neg hb] at e;cases e
section
variable {P:Program} {w:World} {K:PySem.W.Frag} {mg mb:Str→Option Value} {CX:pM} {k:Nat} {fa a:Addr} {fd:FuncData} {x:Str} {sp:Sp} {s₁:Shared} {vs:List Value} {ns:List Int}
theorem uI (KX:K.In s₁.heap) (hns:s₁.heap.Ns mainGlobals mg) (hb:s₁.heap.Ns builtinsNs mb) (hbb:∀x:Str,x≠"__name__"→mb x=bootBuiltins x) (hlim:s₁.heap.NoLimit) (hg:s₁.gens=#[]) (hbm:∃bm ob,mg "__builtins__"=some (.ref bm)∧bm≠builtinsNs∧s₁.heap.get? bm=some ob∧ob.cls= .type "module"∧ob.dict=some builtinsNs∧ob.data= .plain) (hT:pe K s₁.heap)
    (ha:s₁.heap.get? a=some {cls:= .type "list",data:= .seq vs.toArray}) (hi:IntsAre vs ns) (hl:ns.length≤sizeLine) (hr:Room k callerA)
    (F:∀base:Heap,K.In base→base.Ns mainGlobals mg→FnOk P w K mg base CX k fa fd [x] sp) (hbind:∀(s:Shared) (u:Value),BindsTo s fd ⟨[u],[]⟩ [(x,u)])
    (hsp:∀H:Hp,SqL K H a (ns.map V.int)→sp [.ref a] H (fun v _=>v= .bl true) fun _ _ _=>False)
    (hCX:∀H e s',CX [] H s₁ (fun _ _ _=>False) e s'→False):
    codeAny (model P w) callerA (.call (.ref fa) ⟨[.ref a],[]⟩) (fun r s'=>r= .ok (.ret (.bool true))∧OldK s₁.heap s'.heap∧s'.os=s₁.os∧AllBare s'.gens) s₁:=by
  have rv:=fI hi
  have lenV:=hi.length
  have tabA:jy K a=none:=by
    cases q:jy K a with
    | none=>rfl
    | some z=>
      have e:=(hT a z q).1
      rw [ha] at e
      cases e
  have main:∀so:Option HO,(so=none∨(so=some (.frz {cls:= .type "list",data:= .seq vs.toArray} (.lst (ns.map V.int)))∧K.lookup a=none))→SqL K (cu K a so) a (ns.map V.int)→
      codeAny (model P w) callerA (.call (.ref fa) ⟨[.ref a],[]⟩) (fun r s'=>r= .ok (.ret (.bool true))∧OldK s₁.heap s'.heap∧s'.os=s₁.os∧AllBare s'.gens) s₁:=by
    intro so hso hS
    have hok:HOk P w (cu K a so) s₁.heap:=fun b u e=>by
      rcases dZ e with ⟨q,e1,rfl⟩ | ⟨rfl,e1⟩
      · exact ObjOk.tbl0 (hT b q e1).1
      · rcases hso with z | ⟨z,_⟩
        · rw [z] at e1;cases e1
        · rw [z] at e1;cases e1
          exact ⟨ha,by rw [List.length_map];exact hl,vs,_,rv,ha⟩
    have free:∀{b:Addr} {o:Obj} {es:Array DictEntry} {ep:Nat},s₁.heap.get? b=some o→o.data= .dict es ep→cu K a so b=none:=fun {b o es ep} e d=>by
      cases q:cu K a so b with
      | none=>rfl
      | some u=>
        rcases dZ q with ⟨z,e1,_⟩ | ⟨rfl,_⟩
        · rw [(hT b z e1).1] at e;cases e;cases d
        · rw [ha] at e;cases e;cases d
    have nsK:∀{b:Addr} {m:Str→Option Value},s₁.heap.Ns b m→(mF s₁.heap (cu K a so)).Ns b m:=fun {b m} ⟨o,es,ep,e,d,r⟩=>⟨o,es,ep,jx e (free e d),d,r⟩
    have kin:K.In (mF s₁.heap (cu K a so)):=fun b o e=>jx (KX b o e) (by
      cases q:cu K a so b with
      | none=>rfl
      | some u=>
        rcases dZ q with ⟨z,e1,_⟩ | ⟨rfl,e1⟩
        · rw [(hT b z e1).2.2] at e;cases e
        · rcases hso with z | ⟨_,z⟩
          · rw [z] at e1;cases e1
          · rw [z] at e;cases e)
    have bmK:∃bm ob,mg "__builtins__"=some (.ref bm)∧bm≠builtinsNs∧(mF s₁.heap (cu K a so)).get? bm=some ob∧ob.cls= .type "module"∧ob.dict=some builtinsNs∧ob.data= .plain:=by
      obtain ⟨bm,ob,c1,c2,c3,c4,c5⟩:=hbm
      refine ⟨bm,ob,c1,c2,jx c3 ?_,c4,c5⟩
      cases q:cu K a so bm with
      | none=>rfl
      | some u=>
        rcases dZ q with ⟨z,e1,_⟩ | ⟨rfl,_⟩
        · rw [(hT bm z e1).1] at c3;cases c3;cases c4
        · rw [ha] at c3
          cases c3
          injection c4 with c6
          exact absurd c6 (by decide)
    have e0:Env0 P w K mg (mF s₁.heap (cu K a so)) callerA [] s₁ (cu K a so):=
      ⟨rfl,⟨kin,nsK hns,⟨mb,nsK hb,hbb⟩,let ⟨mc,h1,h2⟩:=hlim;⟨mc,nsK h1,h2⟩,bmK⟩,fun b o e=>tR e,Nat.le_of_eq (pD _ _),trivial,fun b hb=>absurd (show b∈([]:List Addr) from hb) (by simp),hok, .of_eq hg,fun b q e=>oh e⟩
    refine codeAny_mono ((F _ kin (nsK hns)).run callerA [] s₁ _ ⟨[.ref a],[]⟩ [.ref a] [.ref a] _ _ hr e0 (hbind s₁ (.ref a)) (.cons rfl .nil) (hsp _ hS)) fun r s' h=>?_
    cases r with
    | error e=>exact (hCX _ e s' h).elim
    | ok fl=>
      cases fl with
      | next=>exact False.elim h
      | brk=>exact False.elim h
      | cont=>exact False.elim h
      | ret u=>
        obtain ⟨v,H',os,bare,un,hok',r',q⟩:=h
        have q':v= .bl true:=q
        subst q'
        obtain rfl:u=Value.bool true:=r'
        have nofs:∀b,b∉jf ([]:List Env):=fun b z=>absurd (show b∈([]:List Addr) from z) (by simp)
        have step:∀b o,s₁.heap.get? b=some o→asItWas s₁.heap s'.heap b o∧∃o',s'.heap.get? b=some o':=fun b o e=>by
          cases q:cu K a so b with
          | none=>exact ⟨.inl (un.keep b o e q (nofs b) (by simp)),_,un.keep b o e q (nofs b) (by simp)⟩
          | some u=>
            rcases dZ q with ⟨z,e1,rfl⟩ | ⟨rfl,e1⟩
            · obtain ⟨t1,⟨c,t2⟩,_⟩:=hT b z e1
              obtain ⟨ps,p1,_⟩:=hok' b _ (un.tbls b z q)
              rw [t1] at e
              cases e
              exact ⟨.inr (.inl ⟨(t2.tab t1).isCodeTable,rfl,#[],ps,rfl,by simpa using p1⟩),_,p1⟩
            · rcases hso with z | ⟨z,_⟩
              · rw [z] at e1;cases e1
              · rw [z] at e1;cases e1
                have z2:=un.frzs b _ _ q
                obtain ⟨e2,_⟩:=hok' b _ z2
                rw [ha] at e;cases e
                exact ⟨.inl e2,_,e2⟩
        exact ⟨rfl,⟨fun b o e=>(step b o e).1,fun b o e=>(step b o e).2⟩,os,bare⟩
  cases hk:K.lookup a with
  | some o=>
    have e:=KX a o hk
    rw [ha] at e
    cases e
    exact main none (.inl rfl) (.inr ⟨_,vs.toArray,_,hk,rfl,rfl,rfl,by rw [List.size_toArray,lenV];exact hl,by simpa using rv⟩)
  | none=>exact main _ (.inr ⟨rfl,hk⟩) (.inl (.inr ⟨_,p8 tabA⟩))
end
theorem sr {l:PySem.W.OpenLaw} {n k:Nat} {q:Program} {loose:List Str} {XP:(Str→Option Value)→Heap→Prop} {YP:World→Heap→Prop} {d:DefRec} {K:Params→PySem.W.Frag} {CX:World→pM} {sp:World→Sp} {x:Str}
    (hn:l.most=some n) (hn2:n≤sizeLine) (hdf:d.params.defaults=[]) (hr:Room k callerA)
    (hY:∀(w:World) (h:Heap),YP w h→(K w.params).In h∧pe (K w.params) h)
    (F:∀(w:World) (mg:Str→Option Value) (fa:Addr) (h:Heap),(K w.params).In h→h.Ns mainGlobals mg→mg d.name=some (.ref fa)→
      ∃fd:FuncData,(∀(s:Shared) (u:Value),BindsTo s fd ⟨[u],[]⟩ [(x,u)])∧
        ∀base:Heap,(K w.params).In base→base.Ns mainGlobals mg→FnOk l.prog w (K w.params) mg base (CX w) k fa fd [x] (sp w))
    (hsp:∀(w:World) (H:Hp) (a:Addr) (ns:List Int),ns.length≤n→SqL (K w.params) H a (ns.map V.int)→sp w [.ref a] H (fun v _=>v= .bl true) fun _ _ _=>False)
    (hCX:∀(w:World) (H:Hp) (s:Shared) (e:Value) (s':Shared),CX w [] H s (fun _ _ _=>False) e s'→False):
    PySem.W.WalkO q loose XP YP l.row.toRowW d [] (fun f vs=>PySem.call f vs):=by
  refine Att.mK hn hdf fun w s₀ s₁ mg mb fa o pm cd doc a vs ns G Y ho hd hcd hmg hobj hints hlen hg=>?_
  obtain ⟨KX,KT⟩:=hY w _ Y
  obtain ⟨fd,hb,hF⟩:=F w mg fa _ KX G.T.g hmg
  exact uI KX G.T.g G.T.b G.T.builtins G.T.nolimit hg G.T.bmain KT hobj hints (Nat.le_trans hlen hn2) hr hF hb (fun H hS=>hsp w H a ns hlen hS) fun H e s'=>hCX w H s₁ e s'
end L2
namespace PL
open PySem L2 Nh PyProof.Rows
structure ClsOk (K:PySem.W.Frag) (mg:Str→Option Value) (cn:Str) (C:Addr):Prop where
  ns:PySem.W.nsIn K mainGlobals cn=some (some (.ref C))
  mg:mg cn=some (.ref C)
  cl:Cls K C
structure OwnM (P:Program) (w:World) (K:PySem.W.Frag) (mg:Str→Option Value) (base:Heap) (k:Nat) (C:Addr) (m:Str) (ps:List Str) (sp:Sp):Prop where
  ex:∃(f:Addr) (fd:FuncData),FnOk P w K mg base gT k f fd ps sp∧Binds K fd ps []∧Meth K C m f
def DispM (P:Program) (w:World) (K:PySem.W.Frag) (mg:Str→Option Value) (base:Heap) (k:Nat) (m:Str) (c:List PyData→Option Sl):Prop:=
  ∀(H:Hp) (v:V) (d:PyData) (r:Sl),c [d]=some r→Rp K H v d→∃(p C dx:Addr) (fs:List (Str×V)),v= .ref p∧H p=some (.ins C dx fs)∧fs.lookup m=none∧Cls K C∧∃c':List PyData→Option Sl,c' [d]=some r∧OwnM P w K mg base k C m ["self"] (dh K c')
theorem iU {K:PySem.W.Frag} {H:Hp} {v:V} {cn:Str} {kvs:List (PyData×PyData)} (r:Rp K H v (cR cn kvs)):∃(p C dx:Addr) (fs:List (Str×V)),v= .ref p∧PySem.W.nsIn K mainGlobals cn=some (some (.ref C))∧H p=some (.ins C dx fs)∧(∀m∈i3,fs.lookup m=none)∧RpN K H fs kvs:=by
  generalize e:cR cn kvs=d at r
  cases r with
  | obj c h n r=>cases e;exact ⟨_,_,_,_,rfl,c,h,n,r⟩
  | dct h1 h2=>
    cases h2 with
    | nil=>cases e
    | @cons k x us d kvs a b=>cases k <;> cases e
  | _=>cases e
def fK (f:Str):List (PyData×PyData)→Option PyData
  | []=>none
  | (.str g,d)::r=>if g=f then some d else fK f r
  | _::r=>fK f r
theorem RpN.look {K:PySem.W.Frag} {H:Hp} {f:Str} {d:PyData} {fs:List (Str×V)}:∀{kvs:List (PyData×PyData)},RpN K H fs kvs→fK f kvs=some d→∃v,fs.lookup f=some v∧Rp K H v d
  | _, .nil,e=>by cases e
  | _, .cons l h r,e=>by
    unfold fK at e
    split at e
    · rename_i z
      cases e;subst z
      exact ⟨_,l,h⟩
    · exact r.look e
  | _, .frl l h r,e=>r.look e
def oi (f:Str):List (PyData×PyData)→Option Int
  | []=>none
  | (.tuple [.str g], .int n)::r=>if g=f then some n else oi f r
  | _::r=>oi f r
theorem RpN.lenk {K:PySem.W.Frag} {H:Hp} {f:Str} {n:Int} {fs:List (Str×V)}:∀{kvs:List (PyData×PyData)},RpN K H fs kvs→oi f kvs=some n→∃l o xs,fs.lookup f=some (.ref l)∧H l=some (.frz o (.lst xs))∧(xs.length:Int)=n
  | _, .nil,e=>by cases e
  | _, .cons l h r,e=>r.lenk e
  | _, .frl l h r,e=>by
    unfold oi at e
    split at e
    · rename_i z
      cases e;subst z
      exact ⟨_,_,_,l,h,rfl⟩
    · exact r.lenk e
def jV (cs:List Str) (f:Str) (g:bY):bY:=fun E=>(g E).bind fun a=>(look a.2 a.1).bind fun d=>match d with
  | .dict ((.none, .tuple [.str cn])::kvs)=>if cs.contains cn then (oi f kvs).map fun n=>(.sh (.int n),a.2) else none
  | _=>none
def bx (cs:List Str) (f:Str) (g:bY):bY:=fun E=>(g E).bind fun a=>(look a.2 a.1).bind fun d=>match d with
  | .dict ((.none, .tuple [.str cn])::kvs)=>if cs.contains cn then (fK f kvs).bind fun d'=>if !hot a.2 a.1||aO d' then some (.sh d',a.2) else none else none
  | _=>none
def a7 (c:List PyData→Option Sl) (g:bY):bY:=fun E=>(g E).bind fun a=>(look a.2 a.1).bind fun d=>(c [d]).map fun r=>(r,a.2)
def bg (cn:Str) (c:List PyData→Option (List (PyData×PyData))) (g:kP):bY:=fun E=>(g E).bind fun a=>(aF a.2 a.1).bind fun ds=>(c ds).map fun kvs=>(.sh (cR cn kvs),a.2)
def kf (K:PySem.W.Frag) (C:Addr) (c:List PyData→Option (List (PyData×PyData))):Sp:=fun vs H Q _=>∃x dx vs' ds kvs,vs= .ref x::vs'∧H x=some (.ins C dx [])∧c ds=some kvs∧(∃H0,H0 x=none∧Same H0 H∧RpA K H0 vs' ds)∧
  ∀fs H',(∀b o,b≠x→H b=some o→H' b=some o)→H' x=some (.ins C dx fs)→(∀m∈i3,fs.lookup m=none)→RpN K (tups H') fs kvs→Q .non H'
structure MkOk (P:Program) (w:World) (K:PySem.W.Frag) (mg:Str→Option Value) (base:Heap) (k:Nat) (cn:Str) (ps:List Str) (c:List PyData→Option (List (PyData×PyData))):Prop where
  ex:∃(C f:Addr) (fd:FuncData),ClsOk K mg cn C∧Mk K C f∧FnOk P w K mg base gT k f fd ps (kf K C c)∧Binds K fd ps []
section
variable {X:Cx} {o e:Expr} {es:List Expr} {f m cn x:Str} {p pos apos:Pos} {m1:Bool} {g:bY} {ga:kP}
theorem bF {cs:List Str} (hc:∀cn∈cs,∀C,PySem.W.nsIn X.K mainGlobals cn=some (some (.ref C))→Cls X.K C∧NoAttr X.K C f) (he:EX X o m1 g) (hb:attributeBase o f X.env (eval o X.env)=eval o X.env:=by rfl):EX X (.Attribute o f pos) m1 (bx cs f g):=by
  refine bq (qU he hb) fun σ H Q z=>?_
  obtain ⟨B,E,xs,Xs,res,E',fr,cl,e,q⟩:=z
  obtain ⟨⟨s,E1⟩,e1,e⟩:=Option.bind_eq_some_iff.mp e
  obtain ⟨d,e2,e⟩:=Option.bind_eq_some_iff.mp e
  refine ⟨B,E,xs,Xs,s,E1,fr,cl,e1,fun v H1 ⟨F,A,fr1⟩=>?_⟩
  split at e
  rotate_left
  · cases e
  rename_i cn kvs
  split at e
  rotate_left
  · cases e
  rename_i hcn
  obtain ⟨d',e3,e⟩:=Option.bind_eq_some_iff.mp e
  split at e
  rotate_left
  · cases e
  rename_i hh
  cases e
  obtain ⟨r,rf⟩:=fr1.look0 e2
  obtain ⟨p,C,dx,fs,rfl,ns,hp,_,rn⟩:=iU r
  obtain ⟨c1,c2⟩:=hc cn (by simpa using hcn) C ns
  obtain ⟨v',l,rv⟩:=rn.look e3
  refine ⟨p,C,dx,fs,v',rfl,hp,c1,c2,l,q _ _ ?_⟩
  obtain ⟨A',fr2⟩:=fr1.pop
  have rF:Rp X.K F v' d':=by
    rcases Bool.or_eq_true_iff.mp hh with z | z
    · have rr:Rp X.K F (.ref p) (cR cn kvs):=rf (by simpa using z)
      obtain ⟨p2,C2,dx2,fs2,ep,ns2,hp2,_,rn2⟩:=iU rr
      cases ep
      have:=fr1.fh _ _ hp2
      rw [hp] at this
      cases this
      obtain ⟨v2,l2,rv2⟩:=rn2.look e3
      rw [l] at l2
      cases l2
      exact rv2
    · exact fr1.cold rv z
  exact ⟨F,A',fr2.push ⟨rfl,_,rfl,rF⟩⟩
theorem uJ {cs:List Str} (hc:∀cn∈cs,∀C,PySem.W.nsIn X.K mainGlobals cn=some (some (.ref C))→Cls X.K C∧NoAttr X.K C f) (hg:Gl X "len") (hm:X.mg "len"=none) (ha:EX X o m1 g) (hb:attributeBase o f X.env (eval o X.env)=eval o X.env:=by rfl) (he:starEach [.Attribute o f apos] X.env=[(false,eval (.Attribute o f apos) X.env)]:=by rfl):EX X (.Call (.Name "len" p) [.Attribute o f apos] [] pos) m1 (jV cs f g):=by
  refine bq (eZ hU hg hm PySem.boot_len (bi (qU ha hb) cQ he) (by decide) (by decide) he rfl) fun σ H Q z=>?_
  obtain ⟨B,E,xs,Xs,res,E',fr,cl,e,q⟩:=z
  obtain ⟨⟨s,E1⟩,e1,e⟩:=Option.bind_eq_some_iff.mp e
  obtain ⟨d,e2,e⟩:=Option.bind_eq_some_iff.mp e
  refine ⟨B,E,xs,Xs,s,E1,fr,cl,e1,fun v H1 ⟨F,A,fr1⟩=>?_⟩
  split at e
  rotate_left
  · cases e
  rename_i cn kvs
  split at e
  rotate_left
  · cases e
  rename_i hcn
  obtain ⟨n,e3,e⟩:=Option.map_eq_some_iff.mp e
  cases e
  obtain ⟨r,rf⟩:=fr1.look0 e2
  obtain ⟨p,C,dx,fs,rfl,ns,hp,_,rn⟩:=iU r
  obtain ⟨c1,c2⟩:=hc cn (by simpa using hcn) C ns
  obtain ⟨l,ob,us,l1,l2,l3⟩:=rn.lenk e3
  obtain ⟨A',fr2⟩:=fr1.pop
  refine ⟨p,C,dx,fs, .ref l,rfl,hp,c1,c2,l1,l,us,rfl, .inl (.inl (.inr ⟨ob,l2⟩)),q _ _ ?_⟩
  rw [l3]
  exact ⟨F,A',fr2.push ⟨rfl,_,rfl, .int n⟩⟩
theorem a_ {k:Nat} {c:List PyData→Option Sl} {pl:Sem Bool} (D:DispM X.prog X.w X.K X.mg X.base k m c) (hr:Room k X.A) (he:EX X o m1 g)
    (ht:eval (.Call (.Attribute o m apos) [] [] pos) X.env=(do
      let ov ←eval o X.env
      standAt apos.atName
      let (f,first) ←holding [ov] (getMethod ov m pl)
      callWith pos f first (backTo pos (starEach [] X.env)) (backToKw pos (keywordEach [] X.env))):=by rfl):EX X (.Call (.Attribute o m apos) [] [] pos) m1 (a7 c g):=by
  intro pins s σ H Q I z
  obtain ⟨B,E,xs,Xs,res,E',fr,cl,e,q⟩:=z
  obtain ⟨⟨s1,E1⟩,e1,e⟩:=Option.bind_eq_some_iff.mp e
  obtain ⟨d,e2,e⟩:=Option.bind_eq_some_iff.mp e
  obtain ⟨r,e3,e⟩:=Option.map_eq_some_iff.mp e
  cases e
  refine PySem.W.methodCall_KW (pl:=pl) (cI (he pins s σ H (fun v H1=>Frm X.K B σ H1 E1 (v::xs) (s1::Xs)) I ⟨B,E,xs,Xs,s1,E1,fr,cl,e1,fun v H1 f=>f⟩) fun u t1 ⟨v,H1,I1,rv,F,A,fr1⟩=>?_) ht
  have rp:=(fr1.look0 e2).1
  obtain ⟨p,C,dx,fs,rfl,hp,l,c1,c',e3',f0,fd,Fk,b,mt⟩:=D H1 v d res e3 rp
  obtain rfl:u=Value.ref p:=rv
  obtain ⟨A',fr2⟩:=fr1.pop
  refine gV I1 hp c1 mt l ?_
  exact PySem.W.callWith_K0 (first:=[.ref p]) I1.kIn mt.kp (nX (us:=[.ref p]) (vs:=[.ref p]) Fk hr b .nil oU I1 (.cons rfl .nil) ⟨[d],res,e3', .cons rp .nil,fun v H' gg q'=>q v H' (fr2.told gg q')⟩)
theorem bK {k:Nat} {ps:List Str} {c:List PyData→Option (List (PyData×PyData))} (M:MkOk X.prog X.w X.K X.mg X.base k cn ps c) (hr:Room (k+1) X.A) (hg:Gl X cn) (ha:AX X (e::es) m1 ga) (hdb:(cn == ("__debug__":Str))=false:=by decide) (he:starEach (e::es) X.env=(false,eval e X.env)::starEach es X.env:=by rfl) (hpl:(backTo pos (starEach es X.env)).any (·.1)=false:=by rfl):
    EX X (.Call (.Name cn p) (e::es) [] pos) m1 (bg cn c ga):=by
  obtain ⟨C,f,fd,ck,mk,Fk,b⟩:=M.ex
  refine bq (uf mk Fk hr hg ck.mg b .nil oU ha hdb he hpl) fun σ H Q z=>?_
  obtain ⟨B,E,xs,Xs,res,E',fr,cl,e,q⟩:=z
  obtain ⟨⟨rs,E1⟩,e1,e⟩:=Option.bind_eq_some_iff.mp e
  obtain ⟨ds,e2,e⟩:=Option.bind_eq_some_iff.mp e
  obtain ⟨kvs,e3,e⟩:=Option.map_eq_some_iff.mp e
  cases e
  refine ⟨B,E,xs,Xs,rs,E1,fr,cl,e1,fun vs H1 hl ⟨F,A,fr1⟩=>fun x dx nx ndx ne=>?_⟩
  obtain ⟨r1,A',fr2⟩:=fr1.looks hl e2
  have g0:Same H1 (upd (upd H1 dx (.own x)) x (.ins C dx [])):=fun b o z=>by
    rw [am (aG z nx),am (aG z ndx)]
    exact z
  refine ⟨x,dx,vs++[],ds,kvs,rfl,upd_same,e3,⟨H1,nx,g0,by rw [List.append_nil];exact r1⟩,fun fs H' k1 k2 k3 k4=>⟨rfl,?_⟩⟩
  have g1:Same H1 H':=fun b o z=>k1 b o (aG z nx) (g0 b o z)
  exact q _ _ (fr2.told g1 (show i6 X.K H1 H' (.ref x) (.sh (cR cn kvs)) from .obj ck.ns (dN k2 rfl) k3 k4))
end
theorem tQ {P:Program} {w:World} {K:PySem.W.Frag} {mg:Str→Option Value} {base:Heap} {x qn:Str} {st:Stmt} {N ps:List Str} {k a n:Nat} {g:bP} {f0:Addr} {fd:FuncData} (D:Fun K x qn st f0 fd) (S:FnScope N ps (aj st)) (hpa:ps.length=a) (hNn:N.length=n) (hps:a≤n)
    (hbody:∀(cdv:Value) (A:Around) (outer:List Env) (s:Shared) (H:Hp) (E:XK),Room k (A.deeper (PyProof.Rows.envOfC qn (aj st) s.heap.objs.size f0 cdv))→
      qz (gq gT P w K mg base N qn (aj st) f0 cdv A outer s H E).nox (bj st) g):FnOk P w K mg base gT (k+1) f0 fd ps (dh K (cO a n g)):=by
  subst hpa hNn
  refine D.ok S (fun vs H Q E h=>?_) (fun cdv A outer s H vs Q E hr h=>?_)
  · obtain ⟨ds,r,e,rp,_⟩:=h
    unfold cO at e
    split at e
    · rename_i hl
      rw [rp.len];exact hl
    · cases e
  obtain ⟨ds,r,e,rp,q⟩:=h
  unfold cO at e
  split at e
  · rename_i hl
    refine ⟨_,hbody cdv A outer s H E hr,?_⟩
    obtain ⟨⟨E',fl⟩,e1,e⟩:=Option.bind_eq_some_iff.mp e
    refine ⟨H,aI N.length ds,[],[],E',fl,⟨H,[],jq rp (by omega)⟩,rfl,e1,?_⟩
    cases fl with
    | nx=>
      cases e
      rintro σ' H' ⟨F',A',fr'⟩
      exact q _ _ (fr'.bf.trans fr'.fh) .non
    | bk=>cases e
    | ct=>cases e
    | rt r'=>
      rintro σ' v H' ⟨F',A',fr'⟩
      obtain ⟨s1,s2⟩:=fr'.resultO e
      exact q v H' s1 s2
  · cases e
end PL
namespace L2
open PySem PyProof.Rows
section
variable {X:Cx} {pins:List (Addr×Obj)} {σ:St} {H:Hp} {s:Shared} {d:Addr} {o:Obj} {us:List V}
theorem su {u u':HO} (I:Inv X pins σ H s) (e:H d=some u) (hu:(∀xs,u≠ .tup xs)∧∀b,u≠ .own b) (hf:∀o v,X.H₀ d=some (.frz o v)→u'= .frz o v) (ht:∀ps,u≠ .tbl ps) (ok:ObjOk X.prog X.w (upd H d u') s.heap d u'):Inv X pins σ (upd H d u') s:=by
  have ne:∀b,H b=none→b≠d:=fun b n z=>by rw [z,e] at n;cases n
  refine ⟨I.ok,I.os,I.bare,⟨I.base.keep,I.base.slot,fun b w' q n hx=>?_,I.base.there,fun b xs q=>?_,fun b w' v q=>?_,fun b ps q=>?_⟩,I.loc,I.cell,?_,fun x c q=>?_,fun p q=>?_,fun b w' q=>?_,I.len⟩
  · have z:=I.base.free b w' q n hx
    rw [am (ne b z)];exact z
  · have z:=I.base.tups b xs q
    rw [am (fun y=>by rw [y,e] at z;cases z;exact hu.1 _ rfl)];exact z
  · by_cases hb:b=d
    · subst hb;rw [upd_same,hf _ _ q]
    · rw [am hb];exact I.base.frzs b w' v q
  · have z:=I.base.tbls b ps q
    rw [am (fun y=>by rw [y,e] at z;cases z;exact ht _ rfl)];exact z
  · rw [am (ne _ I.free)];exact I.free
  · rw [am (ne _ (I.freeC x c q))];exact I.freeC x c q
  · obtain ⟨e1,e2,e3⟩:=I.pin p q
    exact ⟨e1,by rw [am (ne _ e2)];exact e2,e3⟩
  · by_cases hb:b=d
    · subst hb;rw [upd_same] at q;cases q;exact ok
    · rw [am hb] at q
      refine (I.hok b w' q).stay (fun c w' _ q=>q) (fun c q=>?_) fun c xs q=>?_
      · rw [am (fun y=>by rw [y,e] at q;cases q;exact hu.2 _ rfl)];exact q
      · rw [am (fun y=>by rw [y,e] at q;cases q;exact hu.1 _ rfl)];exact q
theorem nh (I:Inv X pins σ H s) (e:H d=some (.lst us)):∃o,Inv X pins σ (upd H d (.frz o (.lst us))) s:=by
  obtain ⟨z,its,n,r,e1⟩:=(show ObjOk X.prog X.w H s.heap d (.lst us) from I.hok d _ e)
  refine ⟨_,su I e ⟨fun _ z=>(nomatch z),fun _ z=>(nomatch z)⟩ (fun o' v q=>?_) (fun _ z=>(nomatch z)) ⟨e1,z,its,n,r,e1⟩⟩
  have q':=I.base.frzs d _ _ q
  rw [e] at q'
  cases q'
end
end L2
namespace PL
open PySem L2 Nh PyProof.Rows
def vC (to:TE):TE:=fun σ H Q=>to σ H fun x H1=>∃d us,x= .ref d∧H1 d=some (.lst us)∧∀ob,Q (.ref d) (upd H1 d (.frz ob (.lst us)))
theorem uK {X:Cx} {o:Expr} {to:TE} (ho:PE X o to):PE X o (vC to):=fun pins s σ H Q I h=>cI (ho pins s σ H _ I h) fun v s1 ⟨x,H1,I1,r1,d,us,ex,hd,q⟩=>by
  subst ex
  obtain ⟨ob,I2⟩:=nh I1 hd
  exact ⟨.ref d,_,I2,r1,q ob⟩
end PL
namespace PL
open PySem L2 Nh PyProof.Rows
theorem p9 {K:PySem.W.Frag} {a l:Addr} {xs:List V} {g:TG} {tt:TT} {te:TE} {Q:VK} {σi:L2.St} {H1:Hp} (Pv:Nat→L2.St→Hp→Prop) (h0:Pv 0 σi (upd H1 l (.lst []))) (hl:∀i σ H,i≤xs.length→Pv i σ H→SqL K H a xs)
    (hs:∀i x σ H,xs[i]? =some x→Pv i σ H→g x σ H fun σ3 H3=>tt σ3 H3 fun b H4=>if b=true then te σ3 H4 fun y H5=>∃ys,H5 l=some (.lst ys)∧ys.length < sizeLine∧Pv (i+1) σ3 (upd H5 l (.lst (ys++[y]))) else Pv (i+1) σ3 H4)
    (hd:∀σ H,Pv xs.length σ H→Q (.ref l) H):∃W:Nat→Nat→L2.St→Hp→Prop,(∃m,W 0 m σi (upd H1 l (.lst [])))∧
  ∀i m σ' H',W i m σ' H'→((xB K a).stop i H'∧Q (.ref l) H')∨((xB K a).go i H'∧∃N:L2.St→Hp→Prop,(∀σ' H',N σ' H'→∃m',m' < m∧W (i+1) m' σ' H')∧∀x H2,(xB K a).yld i H' x H2→g x σ' H2 fun σ3 H3=>tt σ3 H3 fun b H4=>
    if b=true then te σ3 H4 fun y H5=>∃ys,H5 l=some (.lst ys)∧ys.length < sizeLine∧N σ3 (upd H5 l (.lst (ys++[y]))) else N σ3 H4):=by
  refine ⟨fun i m σ H=>m=xs.length - i∧i≤xs.length∧Pv i σ H,⟨xs.length,by simp,Nat.zero_le _,h0⟩,?_⟩
  rintro i m σ H ⟨rfl,hi,p⟩
  have q:=hl i σ H hi p
  by_cases hlt:i < xs.length
  · refine .inr ⟨⟨xs,xs[i],q,by simp [hlt]⟩,Pv (i+1),fun σ' H' p'=>⟨xs.length - (i+1),by omega,rfl,hlt,p'⟩,fun x H' y=>?_⟩
    obtain ⟨e,y⟩:=y
    subst e
    exact hs i x σ _ (y xs q) p
  · have e:i=xs.length:=by omega
    subst e
    exact .inl ⟨⟨xs,q,Nat.le_refl _⟩,hd σ H p⟩
def g5 (K:PySem.W.Frag) (c:List PyData→Option Sl) (ta:TE):TE:=fun σ H Q=>ta σ H fun v H1=>∃d r,c [d]=some r∧Rp K H1 v d∧∀v' H',Same H1 H'→i6 K H1 H' v' r→Q v' H'
theorem ij {X:Cx} {o:Expr} {m:Str} {pos apos:Pos} {ta:TE} {k:Nat} {c:List PyData→Option Sl} {pl:Sem Bool} (D:DispM X.prog X.w X.K X.mg X.base k m c) (hr:Room k X.A) (he:PE X o ta)
    (ht:eval (.Call (.Attribute o m apos) [] [] pos) X.env=(do
      let ov ←eval o X.env
      standAt apos.atName
      let (f,first) ←holding [ov] (getMethod ov m pl)
      callWith pos f first (backTo pos (starEach [] X.env)) (backToKw pos (keywordEach [] X.env))):=by rfl):PE X (.Call (.Attribute o m apos) [] [] pos) (g5 X.K c ta):=by
  intro pins s σ H Q I z
  refine PySem.W.methodCall_KW (pl:=pl) (cI (he pins s σ H _ I z) fun u t1 ⟨v,H1,I1,rv,d,r,e3,rp,q⟩=>?_) ht
  obtain ⟨p,C,dx,fs,rfl,hp,l,c1,c',e3',f0,fd,Fk,b,mt⟩:=D H1 v d r e3 rp
  obtain rfl:u=Value.ref p:=rv
  refine gV I1 hp c1 mt l ?_
  exact PySem.W.callWith_K0 (first:=[.ref p]) I1.kIn mt.kp (nX (us:=[.ref p]) (vs:=[.ref p]) Fk hr b .nil oU I1 (.cons rfl .nil) ⟨[d],r,e3', .cons rp .nil,q⟩)
def cJ:List PyData→Option (List (PyData×PyData))
  | [.str n, .int t]=>some [(.str "nail", .str n),(.str "turns", .int t),(.str "size", .int 1)]
  | _=>none
def xF (c:List PyData→Option Sl):List PyData→Option (List Int)
  | []=>some []
  | d::r=>match c [d] with
    | some (.sh (.int z))=>(xF c r).map (z:: ·)
    | _=>none
def bo (c:List PyData→Option Sl):List PyData→Option (List (PyData×PyData))
  | [.list ds]=>(xF c ds).bind fun zs=>if aZ ds&&decide (ds.length≤1000000) then some [(.str "kept", .tuple ds),(.str "size", .int zs.sum),(.tuple [.str "parts"], .int ds.length)] else none
  | _=>none
def gS (t:List (Str×(List PyData→Option Sl))):List PyData→Option Sl
  | [.dict ((.none, .tuple [.str cn])::kvs)]=>(t.lookup cn).bind fun c=>c [cR cn kvs]
  | _=>none
theorem uL {P:Program} {w:World} {K:PySem.W.Frag} {mg:Str→Option Value} {base:Heap} {k:Nat} {m:Str} {t:List (Str×(List PyData→Option Sl))} (hm:m∈i3) (h:∀cn c,t.lookup cn=some c→∃C,ClsOk K mg cn C∧OwnM P w K mg base k C m ["self"] (dh K c)):DispM P w K mg base k m (gS t):=by
  intro H v d r e rp
  unfold gS at e
  split at e
  · rename_i ds cn kvs ed
    cases ed
    obtain ⟨c,e1,e2⟩:=Option.bind_eq_some_iff.mp e
    obtain ⟨C,ck,ow⟩:=h cn c e1
    obtain ⟨p,C',dx,fs,rfl,ns,hp,nm,_⟩:=iU rp
    rw [ck.ns] at ns
    cases ns
    exact ⟨p,C,dx,fs,rfl,hp,nm m hm,ck.cl,c,e2,ow⟩
  · cases e
theorem OwnM.mono {P:Program} {w:World} {K:PySem.W.Frag} {mg:Str→Option Value} {base:Heap} {j k:Nat} {C:Addr} {m:Str} {ps:List Str} {sp:Sp} (h:OwnM P w K mg base j C m ps sp) (l:j≤k):OwnM P w K mg base k C m ps sp:=by
  obtain ⟨f,fd,F,b,mt⟩:=h.ex
  exact ⟨f,fd,F.mono l,b,mt⟩
theorem DispM.mono {P:Program} {w:World} {K:PySem.W.Frag} {mg:Str→Option Value} {base:Heap} {j k:Nat} {m:Str} {c:List PyData→Option Sl} (h:DispM P w K mg base j m c) (l:j≤k):DispM P w K mg base k m c:=fun H v d r e rp=>by
  obtain ⟨p,C,dx,fs,e1,e2,e3,e4,c',e5,ow⟩:=h H v d r e rp
  exact ⟨p,C,dx,fs,e1,e2,e3,e4,c',e5,ow.mono l⟩
def uM (K:PySem.W.Frag):TS:=ls (iG K (de 0) (de 1) "nail") (ls (iG K (de 0) (de 2) "turns") (iG K (de 0) (tC (.int 1)) "size"))
theorem uN {a b c:Str} {x y z:V} (h:∀m∈i3,m≠a∧m≠b∧m≠c):∀m∈i3,(bL c z (bL b y (bL a x []))).lookup m=none:=fun m hm=>by
  obtain ⟨h1,h2,h3⟩:=h m hm
  rw [aw,if_neg h3,aw,if_neg h2,aw,if_neg h1]
  rfl
theorem dt (f:Str) (x:V) (fs:List (Str×V)):(bL f x fs).length≤fs.length+1:=by have:=gp f x fs;omega
theorem k_ {K:PySem.W.Frag} {C:Addr} {H:Hp} {vs:List V} {Q:VK} {E:XK} {D:Ends} {N:List Str} (cl:Cls K C) (n1:NoAttr K C "nail") (n2:NoAttr K C "turns") (n3:NoAttr K C "size") (h:kf K C cJ vs H Q E) (hD:∀σ H',Q .non H'→D.nx σ H') (hN:N.length=3:=by rfl):vs.length=3∧uM K D (L2.cy N vs) H:=by
  obtain ⟨x,dx,vs',ds,kvs,rfl,hx,e,⟨H0,x0,s0,r0⟩,k⟩:=h
  unfold cJ at e
  split at e
  rotate_left
  · cases e
  rename_i n t
  cases e
  obtain ⟨v1,v2,rfl,r1,r2⟩:=r0.two
  cases r1;cases r2
  refine ⟨rfl,?_⟩
  have hst:L2.cy N [.ref x, .str n, .int t]=[some (.ref x),some (.str n),some (.int t)]:=by unfold L2.cy;rw [hN];rfl
  rw [hst]
  refine ⟨_,rfl,_,rfl,x,C,dx,_,rfl,hx,cl,n1,by show 0 < 1000;decide,?_⟩
  refine ⟨_,rfl,_,rfl,x,C,dx,_,rfl,upd_same,cl,n2,by have:=dt "nail" (.str n) [];simp only [List.length_nil] at this;omega,?_⟩
  refine ⟨_,rfl,x,C,dx,_,rfl,upd_same,cl,n3,by have:=dt "nail" (.str n) [];have:=dt "turns" (.int t) (bL "nail" (.str n) []);simp only [List.length_nil] at *;omega,?_⟩
  refine hD _ _ (k _ _ (fun b o hb hbo=>?_) upd_same (uN (by decide+kernel)) ?_)
  · rw [am hb,am hb,am hb];exact hbo
  · refine .cons (x:= .str n) ?_ (.str n) (.cons (x:= .int t) ?_ (.int t) (.cons (x:= .int 1) ?_ (.int 1) .nil))
    · rw [aw,if_neg (by decide+kernel),aw,if_neg (by decide+kernel),aw,if_pos rfl]
    · rw [aw,if_neg (by decide+kernel),aw,if_pos rfl]
    · rw [aw,if_pos rfl]
def wM (K:PySem.W.Frag):List V→Hp→VK→Prop:=fun xs H Q=>∃p ys,xs=[.ref p]∧(SqL K H p ys∨SqT K H p ys)∧∀l,H l=none→Q (.ref l) (upd H l (.lst ys))
def wN (K:PySem.W.Frag):List V→Hp→VK→Prop:=fun xs H Q=>∃p ys,xs=[.ref p]∧((SqL K H p ys∧∀l,H l=none→Q (.ref l) (upd H l (.tup ys)))∨(SqT K H p ys∧Q (.ref p) H))
def uO (K:PySem.W.Frag) (c:List PyData→Option Sl):TS:=ls (iG K (de 0) (vC (wg (wM K) (mI (de 1) qV))) "parts") (ls (iG K (de 0) (wg (wN K) (mI (de 1) qV)) "kept")
  (iG K (de 0) (wg (wL K) (mI (mM [none] (vj K (de 1)) (kF 0) rm (g5 K c (de 0))) qV)) "size"))
theorem pf {c:List PyData→Option Sl}:∀{ds:List PyData} {zs:List Int},xF c ds=some zs→zs.length=ds.length∧∀(i:Nat) (d:PyData),ds[i]? =some d→∃z,zs[i]? =some z∧c [d]=some (.sh (.int z))
  | [],zs,e=>by cases e;exact ⟨rfl,fun i d h=>by simp at h⟩
  | d::r,zs,e=>by
    unfold xF at e
    split at e
    · rename_i z hc
      obtain ⟨zs',e1,rfl⟩:=Option.map_eq_some_iff.mp e
      obtain ⟨h1,h2⟩:=pf e1
      refine ⟨by simp [h1],fun i d' h=>?_⟩
      cases i with
      | zero=>simp at h;subst h;exact ⟨z,rfl,hc⟩
      | succ i=>simpa using h2 i d' (by simpa using h)
    · cases e
theorem lf {K:PySem.W.Frag} {C:Addr} {c:List PyData→Option Sl} {H:Hp} {vs:List V} {Q:VK} {E:XK} {D:Ends} {N:List Str} (cl:Cls K C) (n1:NoAttr K C "parts") (n2:NoAttr K C "kept") (n3:NoAttr K C "size") (h:kf K C (bo c) vs H Q E) (hD:∀σ H',Q .non H'→D.nx σ H') (hN:N.length=2:=by rfl):vs.length=2∧uO K c D (L2.cy N vs) H:=by
  obtain ⟨x,dx,vs',ds,kvs,rfl,hx,e,⟨H0,x0,s0,r0⟩,k⟩:=h
  unfold bo at e
  split at e
  rotate_left
  · cases e
  rename_i ds
  obtain ⟨zs,ez,e⟩:=Option.bind_eq_some_iff.mp e
  split at e
  rotate_left
  · cases e
  rename_i hf
  cases e
  obtain ⟨hf,hlen⟩:=Bool.and_eq_true_iff.mp hf
  have hlen:ds.length≤1000000:=by simpa using hlen
  cases r0 with
  | @cons v _ _ _ r1 r2=>
  cases r2
  cases r1 with
  | @lst a ws _ hq hr=>
  obtain ⟨zl,zg⟩:=pf ez
  have wl:=hr.len
  refine ⟨rfl,?_⟩
  have hst:L2.cy N [.ref x, .ref a]=[some (.ref x),some (.ref a)]:=by unfold L2.cy;rw [hN];rfl
  rw [hst]
  refine ⟨_,rfl,a,ws,rfl, .inl (s0.seq hq),fun l hl=>⟨l,ws,rfl,upd_same,fun ob=>?_⟩⟩
  rw [jp]
  have xl:x≠l:=fun z=>by rw [z,hl] at hx;cases hx
  refine ⟨_,rfl,x,C,dx,_,rfl,by rw [am xl];exact hx,cl,n1,by show 0 < 1000;decide,?_⟩
  have g2:Same H0 (upd (upd H l (.frz ob (.lst ws))) x (.ins C dx (bL "parts" (.ref l) []))):=fun b o z=>by
    rw [am (aG z x0),am (aG (s0 _ _ z) hl)];exact s0 _ _ z
  refine ⟨_,rfl,a,ws,rfl, .inl ⟨g2.seq hq,fun t ht=>?_⟩⟩
  have xt:x≠t:=fun z=>by rw [←z,upd_same] at ht;cases ht
  have tl:t≠l:=fun z=>by rw [z,am xl.symm,upd_same] at ht;cases ht
  have tH:H t=none:=by rw [am xt.symm,am tl] at ht;exact ht
  refine ⟨_,rfl,x,C,dx,_,rfl,by rw [am xt];exact upd_same,cl,n2,by have:=dt "parts" (.ref l) [];simp only [List.length_nil] at this;omega,?_⟩
  generalize hH4:upd (upd (upd (upd H l (.frz ob (.lst ws))) x (.ins C dx (bL "parts" (.ref l) []))) t (.tup ws)) x (.ins C dx (bL "kept" (.ref t) (bL "parts" (.ref l) [])))=H4
  have x4:H4 x=some (.ins C dx (bL "kept" (.ref t) (bL "parts" (.ref l) []))):=by rw [←hH4,upd_same]
  have t4:H4 t=some (.tup ws):=by rw [←hH4,am xt.symm,upd_same]
  have l4:H4 l=some (.frz ob (.lst ws)):=by rw [←hH4,am xl.symm,am tl.symm,am xl.symm,upd_same]
  have b4:∀b o,b≠x→H b=some o→H4 b=some o:=fun b o hb z=>by
    rw [←hH4,am hb,am (aG z tH),am hb,am (aG z hl)];exact z
  have g4:Same H0 H4:=fun b o z=>b4 b o (aG z x0) (s0 _ _ z)
  refine ⟨_,rfl,a,rfl,⟨ws,g4.seq hq⟩,fun lc hlc=>?_⟩
  refine p9 (K:=K) (a:=a) (xs:=ws) (g:=kF 0) (tt:=rm) (te:=g5 K c (de 0)) (σi:=[none]) (Q:=fun y H5=>wL K [y] H5 fun z H6=>de 0 [some (.ref x),some (.ref a)] H6 fun u H7=>∃a' C' dx' fs',u= .ref a'∧H7 a'=some (.ins C' dx' fs')∧Cls K C'∧NoAttr K C' "size"∧fs'.length < 1000∧D.nx [some (.ref x),some (.ref a)] (upd H7 a' (.ins C' dx' (bL "size" z fs')))) (fun i σ H'=>(∃y,σ=[y])∧Same H4 H'∧H' lc=some (.lst ((zs.take i).map V.int))) ⟨⟨_,rfl⟩,hV hlc _,by rw [upd_same];rfl⟩ (fun i σ H' _ ⟨_,s4,_⟩=>(g4.trans s4).seq hq) (fun i y σ H' hy ⟨⟨y0,es⟩,s4,hl4⟩=>?_) fun σ H' ⟨⟨y0,es⟩,s4,hl4⟩=>?_
  · subst es
    refine pR ?_
    obtain ⟨d,ed,rd⟩:=hr.getV hy
    obtain ⟨z,ez',ec⟩:=zg i d ed
    refine ⟨y,rfl,d,_,ec,rd.same (g4.trans s4),fun v' H5 s5 rv=>?_⟩
    have rv:Rp K (tups H5) v' (.int z):=rv
    cases rv
    have hi:i < ws.length:=(List.getElem?_eq_some_iff.mp hy).1
    refine ⟨_,s5 _ _ hl4,o0 (by rw [List.length_map,List.length_take];omega),⟨_,rfl⟩,fun b o e=>?_,?_⟩
    · rw [am (aG e hlc)];exact s5 _ _ (s4 _ _ e)
    · rw [upd_same,List.take_add_one,ez'];simp
  · subst es
    have tk:zs.take ws.length=zs:=List.take_of_length_le (by omega)
    rw [tk] at hl4
    refine ⟨lc,zs,rfl,SqL.of hl4,_,rfl,x,C,dx,_,rfl,s4 _ _ x4,cl,n3,by have:=dt "parts" (.ref l) [];have:=dt "kept" (.ref t) (bL "parts" (.ref l) []);simp only [List.length_nil] at *;omega,?_⟩
    refine hD _ _ (k _ _ (fun b o hb hbo=>?_) upd_same (uN (by decide+kernel)) ?_)
    · rw [am hb];exact s4 _ _ (b4 b o hb hbo)
    · have t6:(upd H' x (.ins C dx (bL "size" (.int zs.sum) (bL "kept" (.ref t) (bL "parts" (.ref l) []))))) t=some (.tup ws):=by rw [am xt.symm];exact s4 _ _ t4
      have g6:Same H0 (upd H' x (.ins C dx (bL "size" (.int zs.sum) (bL "kept" (.ref t) (bL "parts" (.ref l) []))))):=fun b o z=>by rw [am (aG z x0)];exact s4 _ _ (g4 _ _ z)
      refine .cons (x:= .ref t) ?_ (.tup (.inl (.inl (dN t6 rfl))) ((hr.same g6).cold hf)) (.cons (x:= .int zs.sum) ?_ (.int _) (wl▸ .frl (l:=l) (xs:=ws) ?_ (dN (o:= .frz ob (.lst ws)) (by rw [am xl.symm];exact s4 _ _ l4) rfl) .nil))
      · rw [aw,if_neg (by decide+kernel),aw,if_pos rfl]
      · rw [aw,if_pos rfl]
      · rw [aw,if_neg (by decide+kernel),aw,if_neg (by decide+kernel),aw,if_pos rfl]
end PL
namespace PL
open PySem L2 Nh
open PySem.W (nsIn codeIn keepIn fnOf findIn isFn)
structure CF (K:PySem.W.Frag) (cn:Str) (C:Addr):Prop where
  ns:nsIn K mainGlobals cn=some (some (.ref C))
  pg:PySem.W.plainGet K C Str.empty=true
  hd:PySem.W.hasDictIn K C=true
  po:PySem.W.plainOver K C=true
  sa:findIn K (.ref C) "__setattr__"=some (some (.builtin "object.__setattr__"))
  mi:PySem.W.makesIn K C=true
  kc:keepIn K (.ref C)=true
theorem CF.ok {K:PySem.W.Frag} {h:Heap} {mg:Str→Option Value} {cn:Str} {C:Addr} (c:CF K cn C) (X:K.In h) (G:h.Ns mainGlobals mg):ClsOk K mg cn C:=⟨c.ns,PySem.W.mg_of X G c.ns,c.pg,c.hd,c.po,c.sa⟩
def HM (K:PySem.W.Frag) (C:Addr) (m qn:Str) (st:Stmt):Prop:=∃(f:Addr) (oc:Value) (od an:Option Addr) (sl:Array (Option Value)) (kV dc pm cd ct:Value),findIn K (.ref C) m=some (some (.ref f))∧isFn K (.ref f)=true∧K.lookup f=some ⟨oc,od, .func (fnOf m qn (b7 st) (bj st) (aj st) .none kV dc pm an cd ct),sl⟩∧codeIn K cd qn=true∧keepIn K (.ref f)=true
theorem ph {K:PySem.W.Frag} {C:Addr} {m qn:Str} {st:Stmt} {f:Addr} {oc:Value} {od an:Option Addr} {sl:Array (Option Value)} {kV dc pm cd ct:Value} (a:findIn K (.ref C) m=some (some (.ref f))) (i:isFn K (.ref f)=true) (l:K.lookup f=some ⟨oc,od, .func (fnOf m qn (b7 st) (bj st) (aj st) .none kV dc pm an cd ct),sl⟩) (c:codeIn K cd qn=true) (k:keepIn K (.ref f)=true):HM K C m qn st:=⟨f,oc,od,an,sl,kV,dc,pm,cd,ct,a,i,l,c,k⟩
section
variable {P:Program} {w:World} {K:PySem.W.Frag} {mg:Str→Option Value} {base:Heap} {k:Nat} {C:Addr} {cn m qn:Str} {st:Stmt} {ps:List Str} {sp:Sp}
theorem HM.own (h:HM K C m qn st) (F:∀f fd,Fun K m qn st f fd→FnOk P w K mg base gT k f fd ps sp) (b:∀(kV doc pm:Value) (an:Option Addr) (cdv ct:Value) (us:List Value),us.length=ps.length→bindArgs (fnOf m qn (b7 st) (bj st) (aj st) .none kV doc pm an cdv ct) ⟨us,[]⟩=pure (ps.zip us)):OwnM P w K mg base k C m ps sp:=by
  obtain ⟨f,oc,od,an,sl,kV,dc,pm,cd,ct,a,i,l,c,kp⟩:=h
  have D:=iH (st:=st) l c kp
  exact ⟨f,_,F _ _ D,D.binds b,a,i,kp⟩
theorem HM.mkOk {c:List PyData→Option (List (PyData×PyData))} (h:HM K C "__init__" qn st) (cf:CF K cn C) (ck:ClsOk K mg cn C) (F:∀f fd,Fun K "__init__" qn st f fd→FnOk P w K mg base gT k f fd ps (kf K C c)) (b:∀(kV doc pm:Value) (an:Option Addr) (cdv ct:Value) (us:List Value),us.length=ps.length→bindArgs (fnOf "__init__" qn (b7 st) (bj st) (aj st) .none kV doc pm an cdv ct) ⟨us,[]⟩=pure (ps.zip us)):MkOk P w K mg base k cn ps c:=by
  obtain ⟨f,oc,od,an,sl,kV,dc,pm,cd,ct,a,i,l,c,kp⟩:=h
  have D:=iH (st:=st) l c kp
  exact ⟨C,f,_,ck,⟨cf.mi,a,i,cf.kc⟩,F _ _ D,D.binds b⟩
end
theorem vD {P:Program} {w:World} {K:PySem.W.Frag} {mg:Str→Option Value} {base:Heap} {k:Nat} {m:Str}:DispM P w K mg base k m (fun _=>none):=fun _ _ _ _ e=>nomatch e
end PL
namespace PL
open PySem L2 Nh PyProof.Rows
def nK (c:List PyData→Option Sl) (d:PyData):Option Int:=match c [d] with
  | some (.sh (.int z))=>some z
  | _=>none
theorem oj {c:List PyData→Option Sl} {d:PyData} {z:Int} (h:nK c d=some z):c [d]=some (.sh (.int z)):=by
  unfold nK at h
  split at h
  · rename_i y e;cases h;exact e
  · cases h
def ay (k:Int):Int:=if k < 0 then -k else k
def bA (c:List PyData→Option Sl):List PyData→Option (List (PyData×PyData))
  | [d, .int k]=>(nK c d).bind fun z=>if aO d&&bz z (ay k) then some [(.str "body",d),(.str "number", .int k),(.str "size", .int (z*ay k))] else none
  | _=>none
def fb (c:List PyData→Option Sl):List PyData→Option (List (PyData×PyData))
  | [d,e]=>(nK c d).bind fun z=>(nK c e).bind fun y=>if aO d&&aO e then some [(.str "one",d),(.str "other",e),(.str "size", .int (2*(z+y)))] else none
  | _=>none
def zv:List V→Hp→VK→Prop:=fun xs H Q=>∃i,xs=[.int i]∧Q (.int (if i < 0 then -i else i)) H
def uP (K:PySem.W.Frag) (c:List PyData→Option Sl):TS:=ls (iG K (de 0) (de 1) "body") (ls (iG K (de 0) (de 2) "number") (iG K (de 0) (vk (o6 K) (g5 K c (de 1)) (wg zv (mI (de 2) qV))) "size"))
def wO (K:PySem.W.Frag) (c:List PyData→Option Sl):TS:=ls (iG K (de 0) (de 1) "one") (ls (iG K (de 0) (de 2) "other") (iG K (de 0) (vk (o6 K) (tC (.int 2)) (vk (tZ fun i j=> .int (i+j)) (g5 K c (de 1)) (g5 K c (de 2)))) "size"))
theorem om (f:Str) (x:V):(bL f x []).length < 1000:=by have:=dt f x [];simp only [List.length_nil] at this;omega
theorem jj (f g:Str) (x y:V):(bL g y (bL f x [])).length < 1000:=by have:=dt f x [];have:=dt g y (bL f x []);simp only [List.length_nil] at *;omega
theorem lh {K:PySem.W.Frag} {C:Addr} {c:List PyData→Option Sl} {H:Hp} {vs:List V} {Q:VK} {E:XK} {D:Ends} {N:List Str} (cl:Cls K C) (n1:NoAttr K C "body") (n2:NoAttr K C "number") (n3:NoAttr K C "size") (h:kf K C (bA c) vs H Q E) (hD:∀σ H',Q .non H'→D.nx σ H') (hN:N.length=3:=by rfl):vs.length=3∧uP K c D (L2.cy N vs) H:=by
  obtain ⟨x,dx,vs',ds,kvs,rfl,hx,e,⟨H0,x0,s0,r0⟩,k⟩:=h
  unfold bA at e
  split at e
  rotate_left
  · cases e
  rename_i d n
  obtain ⟨z,ez,e⟩:=Option.bind_eq_some_iff.mp e
  split at e
  rotate_left
  · cases e
  rename_i hf
  cases e
  obtain ⟨hf,hm⟩:=Bool.and_eq_true_iff.mp hf
  have ez:=oj ez
  obtain ⟨v1,v2,rfl,r1,r2⟩:=r0.two
  cases r2
  refine ⟨rfl,?_⟩
  have hst:L2.cy N [.ref x,v1, .int n]=[some (.ref x),some v1,some (.int n)]:=by unfold L2.cy;rw [hN];rfl
  rw [hst]
  have gg:∀fs,Same H0 (upd H x (.ins C dx fs)):=fun fs b o y=>by rw [am (aG y x0)];exact s0 _ _ y
  refine ⟨_,rfl,_,rfl,x,C,dx,_,rfl,hx,cl,n1,by show 0 < 1000;decide,?_⟩
  refine ⟨_,rfl,_,rfl,x,C,dx,_,rfl,upd_same,cl,n2,om _ _,?_⟩
  rw [jp]
  refine ⟨v1,rfl,d,_,ez,r1.same (gg _),fun v' H' s' rv=>?_⟩
  have rv:Rp K (tups H') v' (.int z):=rv
  cases rv
  refine ⟨_,rfl,n,rfl, .inl ⟨z,ay n,rfl,rfl,hm,_,rfl,x,C,dx,_,rfl,s' _ _ upd_same,cl,n3,jj _ _ _ _,?_⟩⟩
  have g6:Same H0 (upd H' x (.ins C dx (bL "size" (.int (z*ay n)) (bL "number" (.int n) (bL "body" v1 []))))):=fun b o y=>by rw [am (aG y x0)];exact s' _ _ (gg _ b o y)
  refine hD _ _ (k _ _ (fun b o hb hbo=>?_) upd_same (uN (by decide+kernel)) ?_)
  · rw [am hb];exact s' _ _ (by rw [am hb];exact hbo)
  · refine .cons (x:=v1) ?_ ((r1.same g6).cold hf) (.cons (x:= .int n) ?_ (.int n) (.cons (x:= .int (z*ay n)) ?_ (.int _) .nil))
    · rw [aw,if_neg (by decide+kernel),aw,if_neg (by decide+kernel),aw,if_pos rfl]
    · rw [aw,if_neg (by decide+kernel),aw,if_pos rfl]
    · rw [aw,if_pos rfl]
theorem ni {K:PySem.W.Frag} {C:Addr} {c:List PyData→Option Sl} {H:Hp} {vs:List V} {Q:VK} {E:XK} {D:Ends} {N:List Str} (cl:Cls K C) (n1:NoAttr K C "one") (n2:NoAttr K C "other") (n3:NoAttr K C "size") (h:kf K C (fb c) vs H Q E) (hD:∀σ H',Q .non H'→D.nx σ H') (hN:N.length=3:=by rfl):vs.length=3∧wO K c D (L2.cy N vs) H:=by
  obtain ⟨x,dx,vs',ds,kvs,rfl,hx,e,⟨H0,x0,s0,r0⟩,k⟩:=h
  unfold fb at e
  split at e
  rotate_left
  · cases e
  rename_i d d2
  obtain ⟨z,ez,e⟩:=Option.bind_eq_some_iff.mp e
  obtain ⟨y,ey,e⟩:=Option.bind_eq_some_iff.mp e
  split at e
  rotate_left
  · cases e
  rename_i hf
  cases e
  obtain ⟨hf,hf2⟩:=Bool.and_eq_true_iff.mp hf
  have ez:=oj ez
  have ey:=oj ey
  obtain ⟨v1,v2,rfl,r1,r2⟩:=r0.two
  refine ⟨rfl,?_⟩
  have hst:L2.cy N [.ref x,v1,v2]=[some (.ref x),some v1,some v2]:=by unfold L2.cy;rw [hN];rfl
  rw [hst]
  have gg:∀fs,Same H0 (upd H x (.ins C dx fs)):=fun fs b o y=>by rw [am (aG y x0)];exact s0 _ _ y
  refine ⟨_,rfl,_,rfl,x,C,dx,_,rfl,hx,cl,n1,by show 0 < 1000;decide,?_⟩
  refine ⟨_,rfl,_,rfl,x,C,dx,_,rfl,upd_same,cl,n2,om _ _,?_⟩
  rw [jp]
  refine ⟨v1,rfl,d,_,ez,r1.same (gg _),fun v' H' s' rv=>?_⟩
  have rv:Rp K (tups H') v' (.int z):=rv
  cases rv
  have g1:Same H0 H':=(gg _).trans s'
  refine ⟨v2,rfl,d2,_,ey,r2.same g1,fun v' H2 s2 rv=>?_⟩
  have rv:Rp K (tups H2) v' (.int y):=rv
  cases rv
  refine ⟨z,y,rfl,rfl, .inl ⟨2,z+y,rfl,rfl,(by show bz 2 (z+y)=true;unfold bz;rw [decide_eq_true (show (-(2 ^ 64):Int) < 2∧(2:Int) < 2 ^ 64 by decide)];rfl),_,rfl,x,C,dx,_,rfl,s2 _ _ (s' _ _ upd_same),cl,n3,jj _ _ _ _,?_⟩⟩
  have g6:Same H0 (upd H2 x (.ins C dx (bL "size" (.int (2*(z+y))) (bL "other" v2 (bL "one" v1 []))))):=fun b o q=>by rw [am (aG q x0)];exact s2 _ _ (g1 b o q)
  refine hD _ _ (k _ _ (fun b o hb hbo=>?_) upd_same (uN (by decide+kernel)) ?_)
  · rw [am hb];exact s2 _ _ (s' _ _ (by rw [am hb];exact hbo))
  · refine .cons (x:=v1) ?_ ((r1.same g6).cold hf) (.cons (x:=v2) ?_ ((r2.same g6).cold hf2) (.cons (x:= .int (2*(z+y))) ?_ (.int _) .nil))
    · rw [aw,if_neg (by decide+kernel),aw,if_neg (by decide+kernel),aw,if_pos rfl]
    · rw [aw,if_neg (by decide+kernel),aw,if_pos rfl]
    · rw [aw,if_pos rfl]
end PL
namespace PL
open PySem L2 Nh
theorem jW {α:Type} {cn:Str} {c:α}:∀{t:List (Str×α)},t.lookup cn=some c→(cn,c)∈t
  | [],h=>by cases h
  | (x,a)::t,h=>by
    rw [List.lookup_cons] at h
    split at h
    · rename_i z
      cases h
      rw [beq_iff_eq.mp z]
      exact List.mem_cons_self ..
    · exact List.mem_cons_of_mem _ (jW h)
inductive Disp (P:Program) (w:World) (K:PySem.W.Frag) (mg:Str→Option Value) (base:Heap) (k:Nat) (m:Str):List (Str×(List PyData→Option Sl))→Prop
  | nil:Disp P w K mg base k m []
  | cons {x:Str} {C:Addr} {a:List PyData→Option Sl} {t:List (Str×(List PyData→Option Sl))}:ClsOk K mg x C→OwnM P w K mg base k C m ["self"] (dh K a)→Disp P w K mg base k m t→Disp P w K mg base k m ((x,a)::t)
theorem Disp.at {P:Program} {w:World} {K:PySem.W.Frag} {mg:Str→Option Value} {base:Heap} {k:Nat} {m:Str} {cn:Str} {c:List PyData→Option Sl}:∀{t:List (Str×(List PyData→Option Sl))},Disp P w K mg base k m t→(cn,c)∈t→∃C,ClsOk K mg cn C∧OwnM P w K mg base k C m ["self"] (dh K c)
  | _, .nil,h=>nomatch h
  | _, .cons ck ow r,h=>by
    rcases List.mem_cons.mp h with e | e
    · cases e;exact ⟨_,ck,ow⟩
    · exact r.at e
theorem Disp.ok {P:Program} {w:World} {K:PySem.W.Frag} {mg:Str→Option Value} {base:Heap} {k:Nat} {m:Str} {t:List (Str×(List PyData→Option Sl))} (h:Disp P w K mg base k m t) (hm:m∈i3):DispM P w K mg base k m (gS t):=uL hm fun _ _ e=>h.at (jW e)
inductive Frees (K:PySem.W.Frag) (mg:Str→Option Value) (f:Str):List Str→Prop
  | nil:Frees K mg f []
  | cons {x:Str} {C:Addr} {t:List Str}:ClsOk K mg x C→NoAttr K C f→Frees K mg f t→Frees K mg f (x::t)
theorem Frees.ok {K:PySem.W.Frag} {mg:Str→Option Value} {f:Str}:∀{cs:List Str},Frees K mg f cs→∀cn∈cs,∀C,PySem.W.nsIn K mainGlobals cn=some (some (.ref C))→Cls K C∧NoAttr K C f
  | _, .nil,_,h,_,_=>nomatch h
  | _, .cons ck n r,cn,h,C,ns=>by
    rcases List.mem_cons.mp h with e | e
    · subst e
      rw [ck.ns] at ns
      cases ns
      exact ⟨ck.cl,n⟩
    · exact r.ok cn e C ns
end PL
namespace PL
open PySem L2 Nh PyProof.Rows
structure IsC (K:PySem.W.Frag) (C:Addr):Prop where
  hg:PySem.W.plainGet K C "__class__"=true
  hd:PySem.W.hasDictIn K C=true
  ha:PySem.W.findIn K (.ref C) "__class__"=some (some (.builtin "object.__class__"))
  hn:PySem.W.specialIn K (.builtin "object.__class__") "__get__"=some (some (.builtin "getset_descriptor.__get__"))
  ht:PySem.W.takesIn K (.builtin "object.__class__")=some true
  hm:PySem.W.mroIn K C (.type "object")=some true
theorem oo {X:Cx} {pins:List (Addr×Obj)} {s:Shared} {σ:L2.St} {H:Hp} {p C dx D:Addr} {fs:List (Str×V)} {b:Bool} {A:Around} {E:Value→Shared→Prop} {Q:Value→Shared→Prop} (I:Inv X pins σ H s) (e:H p=some (.ins C dx fs)) (z:IsC X.K C) (ek:PySem.W.kitOne X.K (.ref C) (.ref D)=some b) (h:∀tk,Q (.bool b) {s with toks:=tk}):
    wpAny (model X.prog X.w) A (call (.builtin "isinstance") [.ref p, .ref D]) Q E s:=by
  obtain ⟨mA,O,_⟩:=hM I.hok e
  obtain ⟨od,ia,_⟩:=O.look
  exact PySem.W.kia_one (PySem.W.kitx_own (ox:=PySem.W.instObj C dx) (od:=od) z.hg z.hd z.ha z.hn z.ht z.hm) I.kIn ia ek (fun z=>nomatch z) h
inductive IsRow (K:PySem.W.Frag) (D:Addr):List (Str×Bool)→Prop
  | nil:IsRow K D []
  | cons {x:Str} {C:Addr} {b:Bool} {t:List (Str×Bool)}:PySem.W.nsIn K mainGlobals x=some (some (.ref C))→IsC K C→PySem.W.kitOne K (.ref C) (.ref D)=some b→IsRow K D t→IsRow K D ((x,b)::t)
theorem IsRow.at {K:PySem.W.Frag} {D:Addr} {cn:Str} {b:Bool}:∀{t:List (Str×Bool)},IsRow K D t→(cn,b)∈t→∃C,PySem.W.nsIn K mainGlobals cn=some (some (.ref C))∧IsC K C∧PySem.W.kitOne K (.ref C) (.ref D)=some b
  | _, .nil,h=>nomatch h
  | _, .cons n c k r,h=>by
    rcases List.mem_cons.mp h with e | e
    · cases e;exact ⟨_,n,c,k⟩
    · exact r.at e
def p_ (t:List (Str×Bool)):PyData→Option PyData
  | .dict ((.none, .tuple [.str cn])::_)=>(t.lookup cn).map PyData.bool
  | _=>none
theorem sw {X:Cx} {D:Addr} {t:List (Str×Bool)} (R:IsRow X.K D t):CallR X (.builtin "isinstance") (fun xs H Q=>∃x d r,xs=[x, .ref D]∧Rp X.K H x d∧p_ t d=some r∧∀b,r= .bool b→Q (.bl b) H):=by
  intro pins s σ H xs us Q I r h
  obtain ⟨x,d,r',rfl,rp,hd,q⟩:=h
  obtain ⟨u,w',rfl,ru,rw'⟩:=r.two
  cases (show w'=Value.ref D from rw')
  unfold p_ at hd
  split at hd
  · rename_i cn kvs
    obtain ⟨b,e1,e2⟩:=Option.map_eq_some_iff.mp hd
    obtain ⟨p,C,dx,fs,rfl,ns,hp,_,_⟩:=iU rp
    obtain ⟨C',ns',ic,ek⟩:=R.at (jW e1)
    rw [ns] at ns'
    cases ns'
    cases (show u=Value.ref p from ru)
    exact oo I hp ic ek fun tk=>⟨.bl b,H,I.tok _,rfl,q b e2.symm⟩
  · cases hd
theorem wP {X:Cx} {e:Expr} {m1:Bool} {f:bY} {p p2 pos:Pos} {x:Str} {D:Addr} {t:List (Str×Bool)} (R:IsRow X.K D t) (hg:Gl X "isinstance") (hm:X.mg "isinstance"=none) (ha:EX X e m1 f) (hgx:Gl X x) (hmx:X.mg x=some (.ref D)) (hdx:(x == ("__debug__":Str))=false:=by decide)
    (he:starEach [e, .Name x p2] X.env=(false,eval e X.env)::starEach [.Name x p2] X.env:=by rfl) (he2:starEach [.Name x p2] X.env=[(false,eval (.Name x p2) X.env)]:=by rfl) (hpl:(backTo pos (starEach [.Name x p2] X.env)).any (·.1)=false:=by rfl):
    EX X (.Call (.Name "isinstance" p) [e, .Name x p2] [] pos) m1 (gh (p_ t) f):=by
  have h2:PE X (.Name x p2) (tC (.ref D)):=fun pins s σ H Q I h=>gG I hgx hmx ⟨.ref D,H,I,rfl,h⟩ hdx
  refine bq (eZ (sw R) hg hm PyProof.Rows.boot_isinstance (bi ha (bi h2 cQ he2) he) (by decide) (by decide) he hpl) fun σ H Q z=>?_
  obtain ⟨B,E,xs,Xs,res,E',fr,cl,e,q⟩:=z
  obtain ⟨⟨s,E1⟩,e1,e⟩:=Option.bind_eq_some_iff.mp e
  obtain ⟨d1,e2,e⟩:=Option.bind_eq_some_iff.mp e
  obtain ⟨d2,e3,e⟩:=Option.map_eq_some_iff.mp e
  cases e
  refine ⟨B,E,xs,Xs,s,E1,fr,cl,e1,fun v1 H1 ⟨F,A,fr1⟩=>?_⟩
  obtain ⟨A',fr2⟩:=fr1.pop
  exact ⟨v1,d1,d2,rfl,(fr1.look0 e2).1,e3,fun b z=>q _ _ ⟨F,A',fr2.push ⟨rfl,_,rfl,z▸ .bl b⟩⟩⟩
end PL
namespace PL
open PySem PySem.Spec PyProof.Rows L2 Nh PySem.W PySem.Calls Builtin Builtin.ObjectAttr Builtin.Getset_descriptor
structure ExCls (K:Frag) (C:Addr):Prop where
  cls:∃cd,clsIn K C=some cd
  ga:findIn K (.ref C) "__getattribute__"=some (some (.builtin "BaseException.__getattribute__"))
  gt:findIn K (.ref C) "__getattr__"=some none
  ca:findIn K (.ref C) "__class__"=some (some (.builtin "object.__class__"))
  mb:mroIn K C (.type "BaseException")=some true
  mo:mroIn K C (.type "object")=some true
section
variable {K:Frag} {a C:Addr} {M:Model} {h:Heap}
theorem iV (p:eD a C h):Looks M h (typeOf (.ref a)) (.ref C):=by
  obtain ⟨o,h1,h2⟩:=p
  exact h2▸(Looks.ld h1).andThen .now
theorem uQ {prog:Program} {w:World} {A:Around} {R:Result→Shared→Prop} {s:Shared} {tp:Value} (Z:ExCls K C) (X:K.In s.heap) (I:eD a C s.heap) (h:R (.ok (.ret (.ref C))) s):
    codeAny (model prog w) A (.call (.builtin "getset_descriptor.__get__") ⟨[.builtin "object.__class__", .ref a,tp],[]⟩) R s:=by
  obtain ⟨hh,g,dr,t,os⟩:=s
  have L0:=iV (M:=model prog w) I
  have L1:=looks_mroIn (M:=model prog w) X Z.mo
  refine codeAny_call_builtin KF.slot_gs.plain KF.entry_gs (KF.slot_gs.check _ _ _ _ _ _ _ _ KF.type_class (KF.args_gs _ _ _) ?_)
  unfold Builtin.«getset_descriptor.__get__» descrGet
  rw [dga_obj]
  refine wpAny_bind (wpAny_pure ?_)
  unfold descrGetter descrCheckInstance descrNameAndClass isInstance
  simp only [KF.owner_class]
  repeat lk
  refine ⟨Code.quiet_builtin _ (by decide+kernel),codeAny_builtin KF.entry_class ?_⟩
  unfold Builtin.«object.__class__» shownTypeOf
  repeat lk
  exact h
theorem qc {prog:Program} {w:World} {A:Around} {E:Value→Shared→Prop} {Q:Fin→Shared→Prop} {s:Shared} {tk:Tok} (Z:ExCls K C) (X:K.In s.heap) (I:eD a C s.heap) (h:Q (.done (.ret (.ref C))) s):
    wpAny (model prog w) A (Builtin.«object.__getattribute__» ⟨[.ref a, .str "__class__" tk],[]⟩) Q E s:=by
  obtain ⟨hh,g,dr,t,os⟩:=s
  have L0:=iV (M:=model prog w) I
  have L1:=looks_findIn (M:=model prog w) X Z.ca
  have hT5:(⟨hh,g,dr,t,os⟩:Shared).TypeIs (.builtin "object.__class__") "getset_descriptor":=F.typeOf_object_class
  have f5:=F.typeOf_object_class
  have f6:=F.slot_gs_get.lookup
  have f7:=F.slot_gs_set.lookup
  repeat (any_goals (first | assumption | with_reducible refine L0.at ?_ | with_reducible refine L1.at ?_ | wp_step))
  refine uQ Z X I ?_
  repeat (any_goals (first | assumption | wp_step))
theorem qd {A:Around} {E:Value→Shared→Prop} {nameV:Value} {Q:Unit→Shared→Prop} {s:Shared} (Z:ExCls K C) (X:K.In s.heap) (I:eD a C s.heap) (hq:Q () s):wpAny M A (checkBuiltinCall "BaseException.__getattribute__" ⟨[.ref a,nameV],[]⟩) Q E s:=by
  obtain ⟨hh,g,dr,t,os⟩:=s
  have L0:=iV (M:=M) I
  have L1:=looks_mroIn (M:=M) X Z.mb
  have hk:builtinKind "BaseException.__getattribute__"=some .slot:=by decide+kernel
  have hsplit:splitId "BaseException.__getattribute__"=some ("BaseException","__getattribute__"):=by decide+kernel
  have ha:=F.args_bexc_ga (.ref a) nameV
  simp only [checkBuiltinCall,hk,hsplit]
  refine wpAny_bind ?_
  unfold isInstance
  repeat (first | with_reducible refine L0.at ?_ | with_reducible refine L1.at ?_ | wp_step)
  exact hq
theorem wQ {prog:Program} {w:World} {A:Around} {E:Value→Shared→Prop} {Q:Value→Shared→Prop} {s:Shared} {tk:Tok} {fill expr:Bool} (Z:ExCls K C) (X:K.In s.heap) (I:eD a C s.heap) (hq:Q (.ref C) s):
    wpAny (model prog w) A (getAttrBy (.ref a) (.str "__class__" tk) fill expr) Q E s:=by
  obtain ⟨hh,g,dr,t,os⟩:=s
  have L0:=iV (M:=model prog w) I
  have L1:=looks_findIn (M:=model prog w) X Z.ga
  have L2:=looks_findIn (M:=model prog w) X Z.gt
  have f3:=F.attr_ValueError.ga.bind (.ref a)
  have hx0:(expr&&onTheHeap (Value.builtin "BaseException.__getattribute__"))=false:=by cases expr <;> rfl
  have hx2:(Value.builtin "BaseException.__getattribute__" == Value.builtin "object.__getattribute__")=false:=by decide+kernel
  have hx1:(onTheHeap (Value.ref C)&&Value.builtin "BaseException.__getattribute__" == Value.builtin "object.__getattribute__")=false:=by rw [hx2];rfl
  repeat (any_goals (first | assumption | with_reducible refine L0.at ?_ | with_reducible refine L1.at ?_ | with_reducible refine L2.at ?_ | wp_step))
  refine codeAny_call_builtin F.attr_ValueError.ga.plain F.entry_bexc_ga (qd Z X I (qc Z X I ?_))
  repeat (any_goals (first | assumption | wp_step))
theorem sx {prog:Program} {w:World} {A:Around} {E:Value→Shared→Prop} {Q:Option Value→Shared→Prop} {s:Shared} (Z:ExCls K C) (X:K.In s.heap) (I:eD a C s.heap) (hq:Q (some (.ref C)) {s with toks:=s.toks+1}):
    wpAny (model prog w) A (getAttr? (.ref a) "__class__") Q E s:=by
  obtain ⟨hh,g,dr,t,os⟩:=s
  unfold getAttr?
  repeat (any_goals (first | assumption | with_reducible apply wQ (s:=⟨hh,g,dr,t+1,os⟩) Z X I | wp_step))
theorem sy (Z:ExCls K C):KitX K (.ref a) (.ref C) (eD a C) where
  ty:=fun _ _ _ I=>iV I
  it:=fun _ _ X _=>by
    obtain ⟨cdD,hcD⟩:=Z.cls
    unfold clsIn at hcD
    split at hcD
    · rename_i c' d' cd' sl' ho
      intro A' Q' E' s' k q
      unfold isType loadHead
      exact wpAny_bind (wpAny_loadPart (k _ _ (X _ _ ho)) (wpAny_pure q))
    · cases hcD
  ne:=fun h tp dd its n sl X htp=>by
    obtain ⟨cdD,hcD⟩:=Z.cls
    refine Bool.eq_false_iff.mpr fun q=>?_
    have e:C=tp:=Value.ref.inj (beq_iff_eq.mp q)
    subst e
    unfold clsIn at hcD
    split at hcD
    · rename_i c' d' cd' sl' ho
      have z:=(X _ _ ho).symm.trans htp
      cases z
    · cases hcD
  ca:=fun X I k=>sx Z X I k
end
end PL
namespace PL
open PySem PySem.Spec PyProof.Rows L2 Nh
def Ctx0 (e:Addr) (h:Heap):Prop:=∃o vs,h.get? e=some o∧o.data= .fields vs∧vs[2]? =some .none
def K2 (f:Obj→Obj):Prop:=∀o vs,o.data= .fields vs→∃ws,(f o).data= .fields ws∧ws[2]? =vs[2]?
def Tm {α:Type}:Sem α→Prop
  | .pure _=>True
  | .raise _=>True
  | .unsupported _=>True
  | .rule _ k=>Tm (k ())
  | .at _ k=>Tm (k ())
  | .load _ _ k=>∀o,Tm (k o)
  | .update _ _ f k=>K2 f∧Tm (k ())
  | .loadIfAlive _ k=>∀o,Tm (k o)
  | .point _ k=>Tm (k ())
  | .alloc _ k=>∀a,Tm (k a)
  | .fresh k=>∀t,Tm (k t)
  | .handled _ k=>∀x,Tm (k x)
  | .stack k=>∀x,Tm (k x)
  | _=>False
theorem Tm.bind {α β:Type} {k:α→Sem β} (hk:∀a,Tm (k a)):∀{t:Sem α},Tm t→Tm (t >>= k)
  | .pure a,_=>hk a
  | .raise _,_=>trivial
  | .unsupported _,_=>trivial
  | .rule _ f,h=>Tm.bind hk (t:=f ()) h
  | .at _ f,h=>Tm.bind hk (t:=f ()) h
  | .load _ _ f,h=>fun o=>Tm.bind hk (t:=f o) (h o)
  | .update _ _ g f,h=>⟨h.1,Tm.bind hk (t:=f ()) h.2⟩
  | .loadIfAlive _ f,h=>fun o=>Tm.bind hk (t:=f o) (h o)
  | .point _ f,h=>Tm.bind hk (t:=f ()) h
  | .alloc _ f,h=>fun a=>Tm.bind hk (t:=f a) (h a)
  | .fresh f,h=>fun a=>Tm.bind hk (t:=f a) (h a)
  | .handled _ f,h=>fun a=>Tm.bind hk (t:=f a) (h a)
  | .stack f,h=>fun a=>Tm.bind hk (t:=f a) (h a)
  | .finish _,h=>h.elim
  | .register _ _,h=>h.elim
  | .ask _,h=>h.elim
  | .choose _ _ _,h=>h.elim
  | .os _ _ _,h=>h.elim
  | .call _ _ _ _ _,h=>h.elim
  | .newGen _ _,h=>h.elim
  | .genState _ _,h=>h.elim
  | .resume _ _ _ _,h=>h.elim
  | .yield _ _ _ _,h=>h.elim
  | .fork _ _,h=>h.elim
  | .thread _,h=>h.elim
  | .await _ _ _ _ _,h=>h.elim
theorem Ctx0.upd {e a:Addr} {h:Heap} {f:Obj→Obj} (x:Ctx0 e h) (k:K2 f):Ctx0 e (h.update a f):=by
  obtain ⟨o,vs,ho,hd,h2⟩:=x
  by_cases q:a=e
  · subst q
    obtain ⟨ws,hw,e2⟩:=k o vs hd
    exact ⟨_,ws,Heap.get?_update_self f ho (Obj.isFreed_of_fields hw),hw,e2.trans h2⟩
  · exact ⟨o,vs,(Heap.get?_update_other _ _ q).trans ho,hd,h2⟩
theorem gv {α:Type} {M:Model} {Γ:PySem.Ctx} {Q:α→Pos→Shared→Prop} {E:Value→Pos→Shared→Prop} {e:Addr}:∀{t:Sem α} {p:Pos} {s:Shared},Tm t→Ctx0 e s.heap→Sem.wp M Γ t Q E p s→Sem.wp M Γ t (fun a p s'=>Q a p s'∧Ctx0 e s'.heap) (fun x p s'=>E x p s'∧Ctx0 e s'.heap) p s
  | .pure a,p,s,_,c,h=>by rw [Sem.wp] at h ⊢;exact ⟨h,c⟩
  | .raise _,p,s,_,c,h=>by rw [Sem.wp] at h ⊢;exact ⟨h,c⟩
  | .unsupported _,p,s,_,c,h=>by rw [Sem.wp] at h;exact h.elim
  | .rule _ f,p,s,t,c,h=>by rw [Sem.wp] at h ⊢;exact gv (t:=f ()) t c h
  | .at _ f,p,s,t,c,h=>by rw [Sem.wp] at h ⊢;exact gv (t:=f ()) t c h
  | .load _ _ f,p,s,t,c,h=>by rw [Sem.wp] at h ⊢;obtain ⟨o,ho,h⟩:=h;exact ⟨o,ho,gv (t:=f o) (t o) c h⟩
  | .update _ _ g f,p,s,t,c,h=>by rw [Sem.wp] at h ⊢;exact ⟨h.1,gv (t:=f ()) t.2 (c.upd t.1) h.2⟩
  | .loadIfAlive _ f,p,s,t,c,h=>by rw [Sem.wp] at h ⊢;exact gv (t:=f _) (t _) c h
  | .point _ f,p,s,t,c,h=>by rw [Sem.wp] at h ⊢;exact gv (t:=f ()) t c h
  | .alloc _ f,p,s,t,c,h=>by rw [Sem.wp] at h ⊢;exact gv (t:=f _) (t _) (let ⟨o,vs,ho,r⟩:=c;⟨o,vs,Heap.get?_push_of_some _ ho,r⟩) h
  | .fresh f,p,s,t,c,h=>by rw [Sem.wp] at h ⊢;exact gv (t:=f _) (t _) c h
  | .handled _ f,p,s,t,c,h=>by rw [Sem.wp] at h ⊢;exact gv (t:=f _) (t _) c h
  | .stack f,p,s,t,c,h=>by rw [Sem.wp] at h ⊢;exact gv (t:=f _) (t _) c h
  | .finish _,_,_,h,_,_=>h.elim
  | .register _ _,_,_,h,_,_=>h.elim
  | .ask _,_,_,h,_,_=>h.elim
  | .choose _ _ _,_,_,h,_,_=>h.elim
  | .os _ _ _,_,_,h,_,_=>h.elim
  | .call _ _ _ _ _,_,_,h,_,_=>h.elim
  | .newGen _ _,_,_,h,_,_=>h.elim
  | .genState _ _,_,_,h,_,_=>h.elim
  | .resume _ _ _ _,_,_,h,_,_=>h.elim
  | .yield _ _ _ _,_,_,h,_,_=>h.elim
  | .fork _ _,_,_,h,_,_=>h.elim
  | .thread _,_,_,h,_,_=>h.elim
  | .await _ _ _ _ _,_,_,h,_,_=>h.elim
theorem sC {α:Type} {M:Model} {A:Around} {Q:α→Shared→Prop} {E:Value→Shared→Prop} {e:Addr} {t:Sem α} {s:Shared} (T:Tm t) (c:Ctx0 e s.heap) (h:wpAny M A t Q E s):wpAny M A t (fun a s'=>Q a s'∧Ctx0 e s'.heap) (fun x s'=>E x s'∧Ctx0 e s'.heap) s:=fun Γ p hΓ=>gv T c (h Γ p hΓ)
theorem qe (v:Value):Tm (fieldsOf v):=by
  unfold fieldsOf
  split
  · refine Tm.bind (fun o=>?_) (fun o=>trivial)
    split <;> trivial
  · trivial
theorem ik (v:Value) (i:Nat):Tm (field v i):=by
  unfold field
  refine Tm.bind (fun vs=>?_) (qe v)
  split <;> trivial
theorem wR {i:Nat} {x:Value} (h:i≠2):K2 (Obj.mapFields (·.setIfInBounds i x)):=fun o vs hd=>⟨_,Obj.data_mapFields hd _,by rw [Array.getElem?_setIfInBounds_ne h]⟩
theorem oq (v:Value) {i:Nat} (x:Value) (h:i≠2):Tm (setField v i x):=by
  unfold setField
  split
  · unfold updateField
    refine Tm.bind (fun o=>?_) (fun o=>trivial)
    split
    · split
      · exact ⟨wR h,trivial⟩
      · trivial
    · trivial
  · trivial
theorem qf (env:Env) (outer:List Env):Tm (behindIsImport env outer):=by
  unfold behindIsImport
  split
  · trivial
  · split
    · trivial
    · refine Tm.bind (fun a=>?_) (ik _ _)
      trivial
theorem sD:Tm underTheClaimsCaller:=by
  unfold underTheClaimsCaller
  refine Tm.bind (fun a=>?_) (fun a=>?_)
  · trivial
  · trivial
theorem uR (env:Env) (b:Bool) (outer:List Env):Tm (keptBack env b outer):=by
  cases outer with
  | nil=>
    show Tm (if _ then _ else _)
    by_cases h:(env.scope.isGenerator||env.scope.isCoroutine)=true
    · rw [if_pos h];trivial
    · rw [if_neg h]
      refine Tm.bind (fun a=>?_) sD
      trivial
  | cons c r=>trivial
theorem nj:∀l:List Env,Tm (readyFrames l)
  | []=>trivial
  | env::outer=>by
    unfold readyFrames
    split
    · refine Tm.bind (fun o=>?_) (fun o=>?_)
      · split
        · trivial
        · refine Tm.bind (fun _=>?_) (qf _ _)
          refine Tm.bind (fun _=>?_) (uR _ _ _)
          refine Tm.bind (fun _=>nj outer) ?_
          exact ⟨fun o vs hd=>⟨vs,hd,rfl⟩,trivial⟩
      · trivial
    · trivial
theorem ot (env:Env):Tm (PySem.frameOf env):=by
  unfold PySem.frameOf
  refine Tm.bind (fun l=>?_) ?_
  · refine Tm.bind (fun o=>?_) ?_
    · split <;> trivial
    · generalize List.dropWhile _ _=l
      cases l with
      | nil=>trivial
      | cons e r=>
        refine Tm.bind (fun _=>?_) (nj _)
        trivial
  · refine Tm.bind (fun a=>?_) (fun a=>?_)
    · trivial
    · trivial
theorem sE (f:Addr) (b:Bool):Tm (entryPlaceOf f b):=by
  unfold entryPlaceOf
  refine Tm.bind (fun l=>?_) (fun _=>?_)
  · split <;> trivial
  · trivial
theorem wS (ty:String) (vs:List Value):Tm (newFields ty vs):=by
  show Tm (if _ then _ else _)
  split
  · trivial
  · refine Tm.bind (fun _=>?_) (fun _=>?_)
    · trivial
    · trivial
theorem pi (e:Value) (env:Env):Tm (noteFrame e env):=by
  have last:∀(hd:Value) (f:Addr),Tm (do setField e 1 (←EntryCells.newEntry hd (←PySem.frameOf env) .none (rawInt f) .none (←entryPlaceOf f (hd != .none)))):=fun hd f=>by
    refine Tm.bind (fun fr=>?_) (ot _)
    refine Tm.bind (fun pl=>?_) (sE _ _)
    refine Tm.bind (fun en=>?_) (wS _ _)
    exact oq _ _ (by decide)
  unfold noteFrame
  split
  · refine Tm.bind (fun hd=>?_) (ik _ _)
    split
    · refine Tm.bind (fun w=>?_) (ik _ _)
      split
      · trivial
      · refine Tm.bind (fun _=>last _ _) (oq _ _ (by decide))
    · exact last _ _
  · trivial
theorem iX (e:Value):Tm (setFlight e none):=by
  unfold setFlight
  refine Tm.bind (fun tb=>?_) (ik _ _)
  split
  · exact oq _ _ (by decide)
  · trivial
theorem jX (env:Env) (e:Value):Tm (leaving env e):=by
  unfold leaving
  exact Tm.bind (fun _=>iX e) (pi e env)
def FlyC (base:Heap) (l:List Env) (e:Addr) (cls a0:Value) (h:Heap):Prop:=base.StaysIn h∧base.get? e=none∧h.FunFrames base l∧h.TracedW base e cls a0∧Ctx0 e h
def HeldC (base:Heap) (l:List Env) (e:Addr) (cls a0:Value) (L:Addr) (h:Heap):Prop:=base.StaysIn h∧base.get? e=none∧h.FunFrames base l∧h.TracedAtW base e cls a0 (rawInt L)∧Ctx0 e h
section
variable {M:Model} {A:Around} {E:Value→Shared→Prop} {s:Shared} {base:Heap} {env:Env} {outer l:List Env} {L e:Addr} {cls a0:Value} {Q:Unit→Shared→Prop} {h:Heap}
theorem FlyC.to (x:FlyC base l e cls a0 h):Heap.FlyingW base l e cls a0 h:=⟨x.1,x.2.1,x.2.2.1,x.2.2.2.1⟩
theorem FlyC.of (x:Heap.FlyingW base l e cls a0 h) (c:Ctx0 e h):FlyC base l e cls a0 h:=⟨x.1,x.2.1,x.2.2.1,x.2.2.2,c⟩
theorem HeldC.to (x:HeldC base l e cls a0 L h):Heap.HeldW base l e cls a0 L h:=⟨x.1,x.2.1,x.2.2.1,x.2.2.2.1⟩
theorem HeldC.of (x:Heap.HeldW base l e cls a0 L h) (c:Ctx0 e h):HeldC base l e cls a0 L h:=⟨x.1,x.2.1,x.2.2.1,x.2.2.2,c⟩
theorem FlyC.there (x:FlyC base l e cls a0 h):∃ob,h.get? e=some ob∧ob.cls=cls:=x.to.there
theorem FlyC.first (x:FlyC base l e cls a0 h):∃oe vs,h.get? e=some oe∧oe.cls=cls∧oe.data= .fields vs∧vs[0]? =some a0:=x.to.first
theorem HeldC.there (x:HeldC base l e cls a0 L h):∃ob,h.get? e=some ob∧ob.cls=cls:=x.to.there
theorem nk {t:Sem Unit} {P:Heap→Prop} (T:Tm t) (c:Ctx0 e s.heap) (k:∀{Q:Unit→Shared→Prop},(∀h',P h'→Q () {s with heap:=h'})→wpAny M A t Q E s) (hQ:∀h',P h'→Ctx0 e h'→Q () {s with heap:=h'}):wpAny M A t Q E s:=
  wpAny_mono (sC T c (k (Q:=fun _ s'=>∃h',P h'∧s'={s with heap:=h'}) fun h' p=>⟨h',p,rfl⟩)) (fun _ s' ⟨⟨h',p,z⟩,c'⟩=>by subst z;exact hQ h' p c') fun _ _ z=>z.1
theorem ou (hfr:A.frames=some (env::outer)) (hf:env.frame=some L) (hfl:FlyC base (env::outer) e cls a0 s.heap) (hQ:∀h',FlyC base outer e cls a0 h'→s.heap.UpToSlots h'→Q () {s with heap:=h'}):wpAny M A (leaving env (.ref e)) Q E s:=
  nk (P:=fun h'=>Heap.FlyingW base outer e cls a0 h'∧s.heap.UpToSlots h') (jX _ _) hfl.2.2.2.2 (fun k=>wpAny_leaves_onW hfr hf hfl.to fun h' a b=>k h' ⟨a,b⟩) fun h' p c=>hQ h' (.of p.1 c) p.2
theorem qg (hfr:A.frames=some (env::outer)) (hf:env.frame=some L) (hfl:FlyC base (env::outer) e cls a0 s.heap) (hQ:∀h',HeldC base (env::outer) e cls a0 L h'→s.heap.UpToSlots h'→Q () {s with heap:=h'}):wpAny M A (noteFrame (.ref e) env) Q E s:=
  nk (P:=fun h'=>Heap.HeldW base (env::outer) e cls a0 L h'∧s.heap.UpToSlots h') (pi _ _) hfl.2.2.2.2 (fun k=>wpAny_looks_onW hfr hf hfl.to fun h' a b=>k h' ⟨a,b⟩) fun h' p c=>hQ h' (.of p.1 c) p.2
theorem sG (hh:HeldC base l e cls a0 L s.heap) (hQ:∀h',FlyC base l e cls a0 h'→s.heap.UpToSlots h'→Q () {s with heap:=h'}):wpAny M A (setFlight (.ref e) none) Q E s:=
  nk (P:=fun h'=>Heap.FlyingW base l e cls a0 h'∧s.heap.UpToSlots h') (iX _) hh.2.2.2.2 (fun k=>wpAny_landsW hh.to fun h' a b=>k h' ⟨a,b⟩) fun h' p c=>hQ h' (.of p.1 c) p.2
theorem lX (hh:FlyC base l e cls a0 s.heap) (hQ:∀h',FlyC base l e cls a0 h'→s.heap.UpToSlots h'→Q () {s with heap:=h'}):wpAny M A (setFlight (.ref e) none) Q E s:=
  nk (P:=fun h'=>Heap.FlyingW base l e cls a0 h'∧s.heap.UpToSlots h') (iX _) hh.2.2.2.2 (fun k=>lands_againW hh.to fun h' a b=>k h' ⟨a,b⟩) fun h' p c=>hQ h' (.of p.1 c) p.2
theorem sH {args:List Value} {h':Heap} (hx:Heap.MadeExcOf h h' e cls args):Ctx0 e h':=let ⟨_,he,_⟩:=hx.there;⟨_,_,he,rfl,rfl⟩
theorem lY {args:List Value} (hfr:A.frames=some (env::outer)) (hf:env.frame=some L) (hkb:base.StaysIn h) (hl:h.FunFrames base (env::outer)) (hx:Heap.MadeExcOf h s.heap e cls args)
    (hQ:∀h' t,FlyC base outer e cls (.ref t) h'→h'.TupAt t args→base.get? t=none→s.heap.UpToSlots h'→Q () {s with heap:=h'}):wpAny M A (leaving env (.ref e)) Q E s:=
  nk (P:=fun h'=>∃t,Heap.FlyingW base outer e cls (.ref t) h'∧h'.TupAt t args∧base.get? t=none∧s.heap.UpToSlots h') (jX _ _) (sH hx) (fun k=>wpAny_leaves_madeW hfr hf hkb hl hx fun h' t a b c d=>k h' ⟨t,a,b,c,d⟩) fun h' ⟨t,a,b,c,d⟩ z=>hQ h' t (.of a z) b c d
end
end PL
namespace PL
open PySem PySem.Spec PyProof.Rows L2 Nh
structure UnB (fs:List Addr) (H H':Hp) (h B h':Heap):Prop where
  keep:∀b o,h.get? b=some o→H b=none→b∉fs→B.get? b=some o
  slot:∀b o,h.get? b=some o→H b=none→b∈fs→∃sl,h'.get? b=some {o with slots:=sl}
  free:∀b o,h.get? b=some o→H b=none→H' b=none
  there:∀b o,h.get? b=some o→b∉fs→∃o',B.get? b=some o'
  tups:∀b xs,H b=some (.tup xs)→H' b=some (.tup xs)
  frzs:∀b o u,H b=some (.frz o u)→H' b=some (.frz o u)
  tbls:∀b ps,H b=some (.tbl ps)→H' b=some (.tbl ps)
theorem UnB.un {fs:List Addr} {H H':Hp} {h B h':Heap} (u:UnB fs H H' h B h') (st:B.StaysIn h') (hf:∀b∈fs,H b=none):Un fs [] H H' h h':=
  ⟨fun b o e n hb _=>st b o (u.keep b o e n hb),fun b o e n hb _=>u.slot b o e n hb,fun b o e n _=>u.free b o e n,fun b o e _=>by
    by_cases hb:b∈fs
    · obtain ⟨sl,z⟩:=u.slot b o e (hf b hb) hb
      exact ⟨_,z⟩
    · obtain ⟨o',z⟩:=u.there b o e hb
      exact ⟨o',st b o' z⟩,u.tups,u.frzs,u.tbls⟩
theorem UnB.on {l:List Env} {H H':Hp} {h B h' h2:Heap} (u:UnB (jf l) H H' h B h') (ff:h'.FunFrames B l) (k:h'.UpToSlots h2):UnB (jf l) H H' h B h2:=
  ⟨u.keep,fun b o e n hb=>by
    obtain ⟨sl,z⟩:=u.slot b o e n hb
    obtain ⟨_,o',ho',hd⟩:=ff.mem hb
    rw [z] at ho'
    cases ho'
    obtain ⟨sl2,z2⟩:=k b _ z hd
    exact ⟨sl2,z2⟩,u.free,u.there,u.tups,u.frzs,u.tbls⟩
theorem UnB.out {X:Cx} {pins:List (Addr×Obj)} {σ:L2.St} {H H':Hp} {s:Shared} {B h':Heap} (I:Inv X pins σ H s) (hx:X.ex=[]) (u:UnB (jf X.stack) H H' s.heap B h'):UnB X.fs X.H₀ H' X.s₀.heap B h':=by
  have nx:∀b:Addr,b∉X.ex:=fun b z=>by rw [hx] at z;cases z
  have ne:∀b o,X.s₀.heap.get? b=some o→b≠X.env.locals:=fun b o e=>Nat.ne_of_lt (Nat.lt_of_lt_of_le (Heap.lt_size e) I.ok.above)
  have nf:∀b o,X.s₀.heap.get? b=some o→b∉X.fs→b∉jf X.stack:=fun b o e hb z=>(List.mem_cons.mp (I.stkSub b z)).elim (ne b o e) hb
  refine ⟨fun b o e n hb=>u.keep b o (I.base.keep b o e n hb (nx b)) (I.base.free b o e n (nx b)) (nf b o e hb),fun b o e n hb=>?_,fun b o e n=>?_,fun b o e hb=>?_,fun b xs e=>u.tups b xs (I.base.tups b xs e),fun b o v e=>u.frzs b o v (I.base.frzs b o v e),fun b ps e=>u.tbls b ps (I.base.tbls b ps e)⟩
  · obtain ⟨sl,z⟩:=I.base.slot b o e n hb (nx b)
    have hb':b∈jf X.stack:=by
      rcases I.ok.stk with q | ⟨q,hf⟩
      · rw [q];exact hb
      · rw [q];unfold jf;rw [List.filterMap_cons,hf];exact List.mem_cons_of_mem _ hb
    obtain ⟨sl2,z2⟩:=u.slot b _ z (I.base.free b o e n (nx b)) hb'
    exact ⟨sl2,z2⟩
  · obtain ⟨o',z⟩:=I.base.there b o e (nx b)
    exact u.free b o' z (I.base.free b o e n (nx b))
  · obtain ⟨o',z⟩:=I.base.there b o e (nx b)
    exact u.there b o' z (nf b o e hb)
theorem nq {P:Program} {w:World} {H:Hp} {h:Heap} {a:Addr} {o:HO} (x:ObjOk P w H h a o):∃u,h.get? a=some u:=by
  cases o with
  | lst xs=>obtain ⟨_,_,_,_,e⟩:=x;exact ⟨_,e⟩
  | tup xs=>obtain ⟨_,_,_,o,e,_⟩:=x;exact ⟨_,e⟩
  | dK kvs=>obtain ⟨_,_,_,_,o,_,_,e,_⟩:=x;exact ⟨_,e⟩
  | dT kvs=>obtain ⟨_,_,_,_,o,_,_,e,_⟩:=x;exact ⟨_,e⟩
  | set S n=>obtain ⟨o,_,_,_,e,_⟩:=x;exact ⟨_,e⟩
  | ins C dx fs=>obtain ⟨_,_,_,e,_⟩:=x;exact ⟨_,e⟩
  | own y=>obtain ⟨_,e⟩:=x;exact ⟨_,e⟩
  | xd fs=>obtain ⟨_,⟨_,_,_,e,_⟩,_⟩:=x;exact ⟨_,e⟩
  | rng lo hi=>obtain ⟨_,_,_,e⟩:=x;exact ⟨_,e⟩
  | frz ob u=>obtain ⟨e,_⟩:=x;exact ⟨_,e⟩
  | tbl q=>obtain ⟨_,e,_⟩:=x;exact ⟨_,e⟩
  | met f y=>exact ⟨_,(show h.get? a=some _ from x)⟩
  | ext φ=>obtain ⟨_,⟨_,e⟩,_⟩:=x;exact ⟨_,e⟩
def sI (P:Program) (w:World):pM:=fun outer H s E e s'=>∃H' ea C a0 B,e= .ref ea∧E (.ref C) none H'∧s'.os=s.os∧AllBare s'.gens∧FlyC B outer ea (.ref C) a0 s'.heap∧HOk P w H' B∧UnB (jf outer) H H' s.heap B s'.heap
def sJ (X:Cx) (C:Addr) (pins:List (Addr×Obj)) (σ:L2.St) (H:Hp):Prop:=∀s h' ea vs,Inv X pins σ H s→Heap.MadeExcOf s.heap h' ea (.ref C) vs→X.xe (.ref ea) {s with heap:=h'}
def uS (X:Cx) (C:Addr) (pins:List (Addr×Obj)) (σ:L2.St) (H':Hp):Prop:=∀H s ea s' a0 B,Inv X pins σ H s→s'.os=s.os→AllBare s'.gens→FlyC B X.stack ea (.ref C) a0 s'.heap→HOk X.prog X.w H' B→UnB (jf X.stack) H H' s.heap B s'.heap→X.xe (.ref ea) s'
def sK (X:Cx) (C:Addr) (pins:List (Addr×Obj)) (σ:L2.St) (H':Hp):Prop:=∀H s ea s' a0 B,Inv X pins σ H s→s'.os=s.os→AllBare s'.gens→HeldC B X.stack ea (.ref C) a0 X.env.locals s'.heap→HOk X.prog X.w H' B→UnB (jf X.stack) H H' s.heap B s'.heap→X.xe (.ref ea) s'
theorem nr {M:Model} {A:Around} {E:Value→Shared→Prop} {s:Shared} {base:Heap} {env:Env} {outer:List Env} {L e:Addr} {cls a0:Value} {Q:Unit→Shared→Prop} (hf:env.frame=some L) (hh:HeldC base (env::outer) e cls a0 L s.heap)
    (hQ:∀h',FlyC base outer e cls a0 h'→s.heap.UpToSlots h'→Q () {s with heap:=h'}):wpAny M A (leaving env (.ref e)) Q E s:=by
  unfold leaving
  refine wpAny_bind (wpAny_noteFrame_againW hf hh.2.2.2.1 ?_)
  refine sG hh fun h' hfl k=>?_
  obtain ⟨k1,k2,⟨_,_,k3⟩,k4⟩:=hfl
  exact hQ h' ⟨k1,k2,k3,k4⟩ k
section
variable {P:Program} {w:World} {K:PySem.W.Frag} {mg:Str→Option Value} {base:Heap} {N:List Str} {qual:Str} {scope:Scope} {f:Addr} {cd:Value} {A:Around} {outer:List Env} {s:Shared} {H H':Hp} {E:XK} {C:Addr} {pins:List (Addr×Obj)} {σ:L2.St}
theorem uT (hE:E (.ref C) none H'):sJ (gq (sI P w) P w K mg base N qual scope f cd A outer s H E) C pins σ H':=by
  intro s1 h' ea vs I hx
  show wpAny (model P w) _ (leaving _ (.ref ea)) _ _ _
  have st:=I.stack
  have hin:∀env∈(gq (sI P w) P w K mg base N qual scope f cd A outer s H E).stack,∀b,env.frame=some b→b∈jf (gq (sI P w) P w K mg base N qual scope f cd A outer s H E).stack:=fun env he b hb=>List.mem_filterMap.mpr ⟨env,he,hb⟩
  refine lY (base:=PySem.W.hideAll s1.heap (jf (gq (sI P w) P w K mg base N qual scope f cd A outer s H E).stack)) (h:=s1.heap) I.ok.frames rfl (fun b o q=>PySem.W.of_hideAll _ q) (PySem.W.funFrames_hide st hin) hx fun h2 t x1 x2 x3 x4=>?_
  refine ⟨H',ea,C,_,_,rfl,hE,I.os,I.bare,x1,fun a o e=>?_,?_⟩
  · refine (I.hok a o e).stay (fun b u hb q=>PySem.W.hideAll_get _ q fun z=>?_) (fun _ q=>q) fun _ _ q=>q
    have n:=I.stkFree b z
    rcases hb with rfl | hb
    · rw [n] at e;cases e
    · rw [n] at hb;cases hb
  · refine UnB.out I rfl ⟨fun b o e n hb=>PySem.W.hideAll_get _ e hb,fun b o e n hb=>?_,fun _ _ _ n=>n,fun b o e hb=>⟨o,PySem.W.hideAll_get _ e hb⟩,fun _ _ e=>e,fun _ _ _ e=>e,fun _ _ e=>e⟩
    obtain ⟨_,o',ho',hd⟩:=st.mem hb
    rw [e] at ho'
    cases ho'
    exact x4 b o (hx.keeps b o e) hd
theorem wT (hE:E (.ref C) none H'):uS (gq (sI P w) P w K mg base N qual scope f cd A outer s H E) C pins σ H':=by
  intro H1 s1 ea s' a0 B I os bare fl hok u
  show wpAny (model P w) _ (leaving _ (.ref ea)) _ _ _
  refine ou I.ok.frames rfl fl fun h2 x1 x2=>?_
  exact ⟨H',ea,C,a0,B,rfl,hE,os.trans I.os,bare,x1,hok,UnB.out I rfl (u.on fl.2.2.1 x2)⟩
theorem uU (hE:E (.ref C) none H'):sK (gq (sI P w) P w K mg base N qual scope f cd A outer s H E) C pins σ H':=by
  intro H1 s1 ea s' a0 B I os bare fl hok u
  show wpAny (model P w) _ (leaving _ (.ref ea)) _ _ _
  refine nr rfl fl fun h2 x1 x2=>?_
  exact ⟨H',ea,C,a0,B,rfl,hE,os.trans I.os,bare,x1,hok,UnB.out I rfl (u.on fl.2.2.1 x2)⟩
end
abbrev qC:=List Sl→Option (Str×List Sl)
def yU (X:Cx) (mk al:Bool) (body:List Stmt) (r:qC):Prop:=∀pins s σ H B E n E',Inv X pins σ H s→Frm X.K B σ H E [] []→r E=some (n,E')→
  (∀pins',(al=false→pins'=pins)→∀σ' C H',PySem.W.nsIn X.K mainGlobals n=some (some (.ref C))→Frm X.K B σ' H' E' [] []→(mk=true→sJ X C pins' σ' H')∧uS X C pins' σ' H'∧(al=true→sK X C pins' σ' H'))→wpAny (model X.prog X.w) X.A (execs body X.env) (fun _ _=>False) X.xe s
def RX (X:Cx) (mk al:Bool) (st:Stmt) (r:qC):Prop:=∀pins s σ H B E n E',Inv X pins σ H s→Frm X.K B σ H E [] []→r E=some (n,E')→
  (∀pins',(al=false→pins'=pins)→∀σ' C H',PySem.W.nsIn X.K mainGlobals n=some (some (.ref C))→Frm X.K B σ' H' E' [] []→(mk=true→sJ X C pins' σ' H')∧uS X C pins' σ' H'∧(al=true→sK X C pins' σ' H'))→wpAny (model X.prog X.w) X.A (exec st X.env) (fun _ _=>False) X.xe s
def yV (t:kO) (r:qC):qC:=fun E=>match t E with
  | some (true,E')=>r E'
  | _=>none
def sL (n:Str):qC:=fun E=>some (n,E)
section
variable {X:Cx} {mk al:Bool} {st:Stmt} {bD a b:List Stmt} {g:bP} {r:qC} {c:Expr} {m:Bool} {t:kO} {pos:Pos}
theorem lZ (h:RX X mk al st r):yU X mk al (st::bD) r:=fun pins s σ H B E n E' I fr e k=>
  wpAny_execs_cons (wpAny_mono (h pins s σ H B E n E' I fr e k) (fun _ _ z=>z.elim) fun _ _ z=>z)
theorem yp (hc:TX X.nox c m t) (h:yU X mk al a r):RX X mk al (.If c a b pos) (yV t r):=fun pins s σ H B E n E' I fr e k=>by
  unfold yV at e
  split at e
  · rename_i E1 et
    have q:=hc pins s σ H (fun bb H1=>bb=true∧Frm X.K B σ H1 E1 [] []) (I.wish _) ⟨B,E,[],[],true,E1,fr,fun _=>Calm.nil rfl,et,fun H1 f=>⟨rfl,f⟩⟩
    refine wpAny_If (wpAny_mono q (fun bb s1 z=>?_) fun _ _ z=>z.elim)
    obtain ⟨H1,I1,rfl,fr1⟩:=z
    exact h pins s1 σ H1 B E1 n E' I1.unwish fr1 e k
  · cases e
end
end PL
namespace PL
open PySem PySem.Spec PyProof.Rows L2 Nh
abbrev z_:List Value:=[.type "ValueError", .type "Exception", .type "BaseException", .type "object"]
structure XC (K:PySem.W.Frag) (mg:Str→Option Value) (x:Str) (C:Addr):Prop where
  ns:PySem.W.nsIn K mainGlobals x=some (some (.ref C))
  mg:mg x=some (.ref C)
  ex:PySem.W.excIn K C z_ "ValueError.__new__"=true
  cls:ExCls K C
theorem wU {K:PySem.W.Frag} {h:Heap} {mg:Str→Option Value} {x:Str} {C:Addr} {bmB:List Value} {newId:String} (X:K.In h) (m:mg x=some (.ref C)) (q:PySem.W.excIn K C bmB newId=true):OwnCls x C bmB newId mg h:=by
  refine ⟨m,?_⟩
  unfold PySem.W.excIn at q
  split at q
  · rename_i dd cd sl ho
    split at q
    · rename_i C' bm k0 k1 k2 k3 n k5 hm hs
      simp only [Bool.and_eq_true,beq_iff_eq,Bool.not_eq_true'] at q
      obtain ⟨⟨⟨⟨⟨rfl,rfl⟩,hdel⟩,ht⟩,hok⟩,hni⟩:=q
      obtain ⟨nm,bs,mro,ns,qn,hd,sn,sub,ab,col,del⟩:=cd
      dsimp only at hm hdel hok hni
      subst hm hdel
      have hsl:sl=#[k0,k1,k2,k3,some (.builtin n),k5]:=by
        obtain ⟨l⟩:=sl
        simp only at hs
        rw [hs]
      subst hsl
      exact ⟨bm,ns,nm,qn,bs,hd,sn,sub,ab,col,dd,k0,k1,k2,k3,k5,_,X _ _ ho, .of_isNs (PySem.W.isNs_of_in X hok),PySem.W.nsMap_none_of_in X hok hni,PySem.W.tail_of_in X ht⟩
    · cases q
  · cases q
section
variable {X:Cx} {mk al:Bool} {x:Str} {C:Addr} {np p cpos pos:Pos}
theorem sM {tx:Str} {j:Nat} (hcalm:X.calm=true) (hg:Gl X x) (Z:XC X.K X.mg x C) (hd:(x == ("__debug__":Str))=false:=by decide)
    (he:starEach [.Constant (.str tx) j p] X.env=[(false,eval (.Constant (.str tx) j p) X.env)]:=by rfl):
    RX X true al (.Raise (some (.Call (.Name x np) [.Constant (.str tx) j p] [] cpos)) none pos) (sL x):=fun pins s σ H B E n E' I fr e k=>by
  cases e
  obtain ⟨tl,N,nm,q,bs,hdct,sn,sub,ab,col,dd,k0,k1,k2,k3,k5,mN,hC,hN,hni,T⟩:=(wU I.ok.mod.kin Z.mg Z.ex).obj
  refine wpAny_Raise_call_subT (C:=C) (nm:=nm) (q:=q) (N:=N) (bs:=bs) (bm:=tl) (hdct:=hdct) (sn:=sn) (sub:=sub) (ab:=ab) (col:=col) (dd:=dd) (k0:=k0) (k1:=k1) (k2:=k2) (k3:=k3) (k5:=k5)
    PySem.F.excBase_ValueError (mN:=mN) (T.hasType PySem.F.excBase_ValueError.hasBase) (I.ok.hd hcalm) (by rw [he];rfl) hni (gG I hg Z.mg ⟨rfl,?_⟩ hd)
  have q1:=bi (X:=X) (nO (x:=tx) (j:=j) (pos:=p)) cQ he cpos pins s σ H (fun vs H1=>vs=[.str tx]∧H1=H) I ⟨rfl,rfl⟩
  rw [he] at q1 ⊢
  refine Calls.evalArgs_plain (cI q1 fun vs s2 ⟨us,H2,I2,r,eu,eH⟩=>?_)
  subst eu eH
  have fin:=(k pins (fun _=>rfl) σ C H2 Z.ns fr).1 rfl
  exact ⟨rfl,by rw [←r.length];exact Nat.le_of_ble_eq_true rfl,I2.bk _ _ hC,hN.keeps I2.bk,T.keeps I2.bk,fun h' ea hm=>fin s2 h' ea vs I2 hm⟩
end
def yW (K:PySem.W.Frag) (r:List PyData→Option Str):Sp:=fun vs H _ E=>∃ds n,r ds=some n∧RpA K H vs ds∧∀C H',PySem.W.nsIn K mainGlobals n=some (some (.ref C))→Same H H'→E (.ref C) none H'
def yq (k n:Nat) (r:qC):List PyData→Option Str:=fun ds=>if ds.length=k then (r (aI n ds)).map (·.1) else none
end PL
namespace PL
open PySem PySem.Spec PyProof.Rows L2 Nh
abbrev Aa (X:Cx) (ea:Addr):Cx:={X with A:=X.A.mark (some (.ref ea)),calm:=false,xe:=fun _ _=>False}
abbrev hX (X:Cx) (ea:Addr) (oe:Obj) (C:Addr):Cx:={X with A:=X.A.mark (some (.ref ea)),calm:=false,xe:=fun _ _=>False,H₀:=upd X.H₀ ea (.frz oe (.ext (eD ea C)))}
structure EaNew (X:Cx) (ea:Addr):Prop where
  s0:X.s₀.heap.get? ea=none
  nt:∀xs,X.H₀ ea≠some (.tup xs)
  nf:∀o u,X.H₀ ea≠some (.frz o u)
  nb:∀q,X.H₀ ea≠some (.tbl q)
section
variable {X:Cx} {pins:List (Addr×Obj)} {σ:L2.St} {H:Hp} {s:Shared} {ea:Addr}
theorem sN (I:Inv X pins σ H s):Inv (Aa X ea) pins σ H s:=
  let ok:=I.ok
  ⟨⟨ok.mod,ok.kind,ok.glob,ok.blt,ok.above,ok.inj,ok.has,ok.cab,fun z=>(nomatch z),ok.frames,ok.stk,ok.exf,ok.bs,ok.bsz,ok.noex,ok.exfs,ok.funs,ok.frf,ok.tab⟩,I.os,I.bare,I.base,I.loc,I.cell,I.free,I.freeC,I.pin,I.hok,I.len⟩
theorem uV {oe:Obj} {C:Addr} (I:Inv X pins σ H s) (n:EaNew X ea) (hH:H ea=some (.frz oe (.ext (eD ea C)))):Inv (hX X ea oe C) pins σ H s:=by
  have ok:=I.ok
  have ne:∀b o,X.s₀.heap.get? b=some o→b≠ea:=fun b o e z=>by rw [z,n.s0] at e;cases e
  have up:∀b u,(upd X.H₀ ea (.frz oe (.ext (eD ea C)))) b=u→b≠ea→X.H₀ b=u:=fun b u e z=>by rw [am z] at e;exact e
  refine ⟨⟨ok.mod,ok.kind,ok.glob,ok.blt,ok.above,ok.inj,ok.has,ok.cab,fun z=>(nomatch z),ok.frames,ok.stk,ok.exf,fun b o e=>?_,ok.bsz,ok.noex,ok.exfs,ok.funs,fun b hb=>?_,fun b q e=>?_⟩,I.os,I.bare,⟨fun b o e h=>I.base.keep b o e (up b _ h (ne b o e)),fun b o e h=>I.base.slot b o e (up b _ h (ne b o e)),fun b o e h=>I.base.free b o e (up b _ h (ne b o e)),I.base.there,fun b xs e=>?_,fun b o u e=>?_,fun b q e=>?_⟩,I.loc,I.cell,I.free,I.freeC,I.pin,I.hok,I.len⟩
  · obtain ⟨e1,e2⟩:=ok.bs b o e
    exact ⟨e1,(am (ne b o e1)).trans e2⟩
  · obtain ⟨_,o,e1,_⟩:=ok.funs.mem hb
    exact (am (ne b o e1)).trans (ok.frf b hb)
  · refine (am fun z=>?_).trans (ok.tab b q e)
    subst z
    exact n.nb q (ok.tab _ q e)
  · by_cases z:b=ea
    · subst z
      replace e:=upd_same.symm.trans e
      cases e
    · exact I.base.tups b xs (up b _ e z)
  · by_cases z:b=ea
    · subst z
      replace e:=upd_same.symm.trans e
      cases e
      exact hH
    · exact I.base.frzs b o u (up b _ e z)
  · by_cases z:b=ea
    · subst z
      replace e:=upd_same.symm.trans e
      cases e
    · exact I.base.tbls b q (up b _ e z)
theorem sO {oe:Obj} {C:Addr} (I:Inv (hX X ea oe C) pins σ H s) (ok:X.Ok) (n:EaNew X ea):Inv X pins σ H s:=by
  have ne:∀b o,X.s₀.heap.get? b=some o→b≠ea:=fun b o e z=>by rw [z,n.s0] at e;cases e
  have dn:∀b u,X.H₀ b=u→b≠ea→(hX X ea oe C).H₀ b=u:=fun b u e z=>(am z).trans e
  exact ⟨ok,I.os,I.bare,⟨fun b o e h=>I.base.keep b o e (dn b _ h (ne b o e)),fun b o e h=>I.base.slot b o e (dn b _ h (ne b o e)),fun b o e h=>I.base.free b o e (dn b _ h (ne b o e)),I.base.there,fun b xs e=>I.base.tups b xs (dn b _ e fun z=>n.nt xs (z▸e)),fun b o u e=>I.base.frzs b o u (dn b _ e fun z=>n.nf o u (z▸e)),fun b q e=>I.base.tbls b q (dn b _ e fun z=>n.nb q (z▸e))⟩,I.loc,I.cell,I.free,I.freeC,I.pin,I.hok,I.len⟩
theorem qh {a:Addr} {o:HO} (I:Inv X pins σ H s) (hn:H a=none) (h0:X.s₀.heap.get? a=none) (hL:X.env.locals≠a) (hc:∀x c,X.env.cells.lookup x=some c→c≠a) (hp:∀p∈X.pn++pins,p.1≠a) (ok:ObjOk X.prog X.w (upd H a o) s.heap a o):Inv X pins σ (upd H a o) s:=by
  have ne:∀b u,H b=some u→b≠a:=fun b u e=>aG e hn
  refine ⟨I.ok,I.os,I.bare,⟨I.base.keep,I.base.slot,fun b u e n hx=>?_,I.base.there,fun b xs e=>?_,fun b u v e=>?_,fun b q e=>?_⟩,I.loc,I.cell,?_,fun x c e=>?_,fun p q=>?_,fun b u e=>?_,I.len⟩
  · rw [am (fun z=>by rw [z,h0] at e;cases e)];exact I.base.free b u e n hx
  · have z:=I.base.tups b xs e
    rw [am (ne _ _ z)];exact z
  · have z:=I.base.frzs b u v e
    rw [am (ne _ _ z)];exact z
  · have z:=I.base.tbls b q e
    rw [am (ne _ _ z)];exact z
  · rw [am hL];exact I.free
  · rw [am (hc x c e)];exact I.freeC x c e
  · obtain ⟨e1,e2,e3⟩:=I.pin p q
    exact ⟨e1,by rw [am (hp p q)];exact e2,e3⟩
  · by_cases hb:b=a
    · subst hb;rw [upd_same] at e;cases e;exact ok
    · rw [am hb] at e
      refine (I.hok b u e).stay (fun c w' _ q=>q) (fun c q=>?_) fun c xs q=>?_
      · rw [am (ne _ _ q)];exact q
      · rw [am (ne _ _ q)];exact q
theorem sP {M:Model} {A:Around} {E:Value→Shared→Prop} {i:Nat} {x:Str} {pos:Pos} {Q:Unit→Shared→Prop} (I:Inv X pins σ H s) (hN:X.N.Nodup) (hi:X.N[i]? =some x) (hk:X.env.scope.names.lookup x=some .local)
    (h:∀s',Inv X pins (σ.set i none) H s'→Q () s'):wpAny M A (do bindName X.env x .none;unbindBehindTheSuite X.env x pos) Q E s:=by
  obtain ⟨m,hn,hl⟩:=id I.loc
  have hcls:(X.env.scope.kind == .class||(X.env.scope.kind == .module&&X.env.locals != X.env.globals))=false:=by rw [I.ok.kind];rfl
  have hiσ:i < σ.length:=by rw [I.len];exact (List.getElem?_eq_some_iff.mp hi).1
  have cne:=I.cne
  refine wpAny_nameGoes_keeps hk hn hcls fun h' v hn' hs=>?_
  obtain ⟨oL,_,_,hoL,_⟩:=id hn
  refine h _ ⟨I.ok,I.os,I.bare,⟨fun b o e n hb hx=>?_,fun b o e n hb hx=>?_,I.base.free,fun b o e hx=>?_,I.base.tups,I.base.frzs,I.base.tbls⟩,⟨_,hn',fun j y v' e1 e2 e3=>?_⟩,fun y c e=>?_,I.free,I.freeC,fun p hp=>?_,fun b ob e=>?_,by simpa using I.len⟩
  · exact (hs.2 b (Nat.ne_of_lt (Nat.lt_of_lt_of_le (Heap.lt_size e) I.ok.above))).trans (I.base.keep b o e n hb hx)
  · obtain ⟨sl,e1⟩:=I.base.slot b o e n hb hx
    exact ⟨sl,(hs.2 b (Nat.ne_of_lt (Nat.lt_of_lt_of_le (Heap.lt_size e) I.ok.above))).trans e1⟩
  · obtain ⟨o',e1⟩:=I.base.there b o e hx
    exact ⟨o',(hs.2 b (Nat.ne_of_lt (Nat.lt_of_lt_of_le (Heap.lt_size e) I.ok.above))).trans e1⟩
  · by_cases hj:j=i
    · subst hj
      rw [List.getElem?_set_self hiσ] at e2
      cases e2
    · rw [List.getElem?_set_ne (Ne.symm hj)] at e2
      obtain ⟨u',r',q⟩:=hl j y v' e1 e2 e3
      refine ⟨u',r',?_⟩
      rcases q with ⟨k,e⟩ | ⟨k,c,e,z⟩
      · refine .inl ⟨k,?_⟩
        have:y≠x:=fun e=>hj (jz hN e1 (e▸hi))
        simp [this,e]
      · exact .inr ⟨k,c,e,z.sameBut hs (cne y c e)⟩
  · obtain ⟨w',z⟩:=I.cell y c e
    exact ⟨w',z.sameBut hs (cne y c e)⟩
  · obtain ⟨e,n,ne,nf,d⟩:=I.pin p hp
    exact ⟨(hs.2 p.1 ne).trans e,n,ne,nf,d⟩
  · refine (I.hok b ob e).stay (fun c w' hc q=>(hs.2 c ?_).trans q) (fun _ q=>q) fun _ _ q=>q
    rintro rfl
    rcases hc with rfl | hc
    · rw [I.free] at e;cases e
    · rw [I.free] at hc;cases hc
end
abbrev wV (n:Str):PyData:= .dict [(.none, .str n)]
def uW (ok:List Str) (i:Nat) (r:qC) (g h:bP):bP:=fun E=>match r E with
  | none=>g E
  | some (n,E')=>if n∈ok∧i < E'.length then match h (E'.set i (.sh (wV n))) with
    | some (E2, .rt s)=>some (E2, .rt s)
    | _=>none
    else none
theorem uX {X:Cx} {body:List Stmt} {cn en:Str} {CH:Addr} {np hpos pos:Pos} {b₀:Stmt} {suite:List Stmt} {ok:List Str} {i:Nat} {r:qC} {g hs:bP} (hx:X.xe=fun _ _=>False) (hN:X.N.Nodup) (hex:X.ex=[]) (hst:X.stack=X.env::X.outer) (hfr:X.env.frame=some X.env.locals) (hg:Gl X cn) (hm:X.mg cn=some (.ref CH))
    (hok:∀n∈ok,∀C,PySem.W.nsIn X.K mainGlobals n=some (some (.ref C))→PySem.W.exmOne X.K (.ref C) (.ref CH)=some true) (hb:qz X body g) (hr:∀W,yU (X.wish W) false false body r) (hh:∀ea oe C,(∃vs,oe.data= .fields vs∧vs[2]? =some .none)→qz (hX X ea oe C) (b₀::suite) hs)
    (hi:X.N[i]? =some en:=by rfl) (hk:X.env.scope.names.lookup en=some .local:=by rfl) (hdb:(cn == ("__debug__":Str))=false:=by decide):
    SX X (.Try body [.ExceptHandler (some (.Name cn np)) (some en) (b₀::suite) hpos] [] [] pos) (uW ok i r g hs):=by
  intro pins s σ H D I hw
  obtain ⟨B,E,xs,Xs,E2,fl,fr,cl,e,q⟩:=hw
  subst cl
  have hxs:xs=[]:=by obtain ⟨_,_,f⟩:=fr;simpa using f.len
  subst hxs
  unfold uW at e
  split at e
  · have q:=hb pins s σ H D I ⟨B,E,[],[],E2,fl,fr,rfl,e,q⟩
    rw [hx] at q
    refine wpAny_Try_except (wpAny_mono q (fun f s1 z=>?_) fun _ _ z=>z.elim)
    cases f with
    | next=>exact wpAny_execs_nil z
    | brk=>exact z
    | cont=>exact z
    | ret u=>exact z
  · rename_i n E' er
    split at e
    rotate_left
    · cases e
    rename_i hc
    split at e
    rotate_left
    · cases e
    rename_i E3 sv eh
    cases e
    refine wpAny_Try_except (wpAny_mono (hr (fun e s₁=>wpAny (model X.prog X.w) X.A (noteFrame e X.env) (fun _ s₂=>wpAny (model X.prog X.w) X.A (setFlight e none) (fun _ s₃=>wpAny (model X.prog X.w) X.A (handleBy e X.env [.ExceptHandler (some (.Name cn np)) (some en) (b₀::suite) hpos]) (SP X pins D) X.xe s₃) X.xe s₂) X.xe s₁) pins s σ H B E n E' (I.wish _) fr er fun pp hp σ' C H' ns fr'=>⟨fun z=>(nomatch z),?_,fun z=>(nomatch z)⟩) (fun _ _ z=>z.elim) fun _ _ z=>z)
    cases hp rfl
    intro H1 s1 ea s' a0 Bb I1 os bare fly hokB u
    have I1:Inv X pins σ' H1 s1:=I1.unwish
    have ff:s'.heap.FunFrames Bb X.stack:=fly.2.2.1
    have fly':FlyC Bb (X.env::X.outer) ea (.ref C) a0 s'.heap:=hst▸fly
    have invAt:∀h5,Bb.StaysIn h5→s'.heap.UpToSlots h5→Inv X pins σ' H' {s' with heap:=h5}:=fun h5 st k=>by
      have u2:UnB (jf X.stack) H1 H' s1.heap Bb h5:=u.on ff k
      exact I1.call' (s':={s' with heap:=h5}) os (u2.un st I1.stkFree) (hokB.kept fun b o e=>st b o e) bare fun b z=>(nomatch z)
    refine qg (by rw [I1.ok.frames,hst]) hfr fly' fun h4 held4 k4=>?_
    refine sG held4 fun h5 fly5 k5=>?_
    have I5:=invAt h5 fly5.1 (k4.trans k5)
    obtain ⟨ob,hob,hobc⟩:=fly5.there
    have Z5:eD ea C h5:=⟨ob,hob,hobc⟩
    refine wpAny_handleBy_cons (codeAny_handlers_test (gG (X:=Aa X ea) (sN I5) hg hm ?_ hdb)) (by intro q;cases q)
    refine (PySem.W.exm_one (I5.kIn) (iV Z5) (hok n hc.1 C ns)).here ?_
    refine codeAny_handlers_suite_as ?_
    refine lX fly5 fun h6 fly6 k6=>?_
    have I6:=invAt h6 fly6.1 ((k4.trans k5).trans k6)
    obtain ⟨oe,vs,hoe,hoec,hoed,_⟩:=fly6.first
    have nB:Bb.get? ea=none:=fly6.2.1
    have old:∀b o,s1.heap.get? b=some o→b≠ea:=fun b o eb z=>by
      subst z
      by_cases hf:b∈jf X.stack
      · obtain ⟨_,o',ho',hd⟩:=(show h6.FunFrames Bb X.stack from hst▸fly6.2.2.1).mem hf
        rw [hoe] at ho'
        cases ho'
        exact hd vs hoed
      · obtain ⟨o',ho'⟩:=u.there b o eb hf
        rw [nB] at ho'
        cases ho'
    have hn6:H' ea=none:=by
      cases q:H' ea with
      | none=>rfl
      | some o=>
        obtain ⟨z,e⟩:=nq (hokB ea o q)
        rw [nB] at e
        cases e
    have hs0:X.s₀.heap.get? ea=none:=by
      cases q:X.s₀.heap.get? ea with
      | none=>rfl
      | some o=>
        obtain ⟨o',z⟩:=I1.base.there ea o q (by rw [hex];exact fun z=>(nomatch z))
        exact absurd rfl (old ea o' z)
    have hnew:EaNew X ea:=⟨hs0,fun xs z=>(nomatch hn6.symm.trans (I6.base.tups ea xs z)),fun o u z=>(nomatch hn6.symm.trans (I6.base.frzs ea o u z)),fun q z=>(nomatch hn6.symm.trans (I6.base.tbls ea q z))⟩
    have hctx:∃vs,oe.data= .fields vs∧vs[2]? =some .none:=by
      obtain ⟨o,ws,ho,hd,h2⟩:=fly6.2.2.2.2
      rw [hoe] at ho
      cases ho
      exact ⟨ws,hd,h2⟩
    have I7:Inv X pins σ' (upd H' ea (.frz oe (.ext (eD ea C)))) {s' with heap:=h6}:=by
      refine qh I6 hn6 ?_ ?_ (fun x c e=>?_) (fun p hp=>?_) ?_
      · cases q:X.s₀.heap.get? ea with
        | none=>rfl
        | some o=>
          obtain ⟨o',z⟩:=I1.base.there ea o q (by rw [hex];exact fun z=>(nomatch z))
          exact absurd rfl (old ea o' z)
      · obtain ⟨_,⟨o,_,_,ho,_⟩,_⟩:=I1.loc
        exact old _ o ho
      · obtain ⟨v,o,ho,_⟩:=I1.cell x c e
        exact old _ o ho
      · exact old _ _ (I1.pin p hp).1
      · exact ⟨hoe,⟨oe,hoe,hoec⟩,⟨oe,hoe⟩,fun h1 h2 ⟨o,z,c⟩ k=>⟨o,k o z,c⟩⟩
    refine jA (X:=X) I7 hN hi (.inl hk) (v:= .ref ea) rfl (fun s8 I8=>?_) (.inr hk)
    have g:Same H' (upd H' ea (.frz oe (.ext (eD ea C)))):=fun b o e=>by rw [am (aG e hn6)];exact e
    obtain ⟨F',A',fr1⟩:=fr'
    have fr2:=fr1.grow g
    have nA:ea∉A':=fun z=>by
      rcases fr1.mutA ea z with ⟨_,w⟩ | ⟨_,w⟩ <;> rw [hn6] at w <;> cases w
    have fr3:=fr2.push (v:= .ref ea) (s:= .sh (wV n)) ⟨rfl,_,rfl, .exc (by show (if ea∈A' then none else _)=_;rw [if_neg nA];exact upd_same) ns⟩
    obtain ⟨A3,fr4⟩:=fr3.store rfl (fun _ z=>(nomatch z)) hc.2
    have q8:=hh ea oe C hctx pins s8 _ _ {nx:=fun _ _=>False,bk:=fun _ _=>False,ct:=fun _ _=>False,rt:=fun v H9=>∃σ9,Frm X.K B σ9 H9 E2 [v] [sv]} (uV I8 hnew upd_same) ⟨B,_,[],[],E2, .rt sv,⟨_,A3,fr4⟩,rfl,eh,fun σ9 v H9 f=>⟨σ9,f⟩⟩
    refine wpAny_mono q8 (fun f s9 z=>?_) fun _ _ z=>z.elim
    cases f with
    | next=>obtain ⟨_,_,_,z⟩:=z;exact z.elim
    | brk=>obtain ⟨_,_,_,z⟩:=z;exact z.elim
    | cont=>obtain ⟨_,_,_,z⟩:=z;exact z.elim
    | ret uu=>
      obtain ⟨v,σ9,H9,I9,rv,σx,fx⟩:=z
      have I9:Inv X pins σ9 H9 s9:=sO I9 I.ok hnew
      exact sP I9 hN hi hk fun s10 I10=>⟨v,_,H9,I10,rv,q _ v H9 fx⟩
end PL
namespace PL
open PySem PySem.Spec PyProof.Rows L2 Nh
def XT (K:PySem.W.Frag) (c:Value) (tab:List (Str×Bool)):Prop:=∀n b C,tab.lookup n=some b→PySem.W.nsIn K mainGlobals n=some (some (.ref C))→ExCls K C∧PySem.W.kitOne K (.ref C) c=some b
theorem fG {K:PySem.W.Frag} {c:Value}:XT K c []:=fun _ _ _ e=>nomatch e
theorem dO {K:PySem.W.Frag} {c:Value} {n:Str} {C:Addr} {b:Bool} {tab:List (Str×Bool)} (ns:PySem.W.nsIn K mainGlobals n=some (some (.ref C))) (Z:ExCls K C) (k:PySem.W.kitOne K (.ref C) c=some b) (h:XT K c tab):XT K c ((n,b)::tab):=fun n' b' C' e ns'=>by
  rw [List.lookup_cons] at e
  split at e
  · rename_i q
    rw [beq_iff_eq] at q
    subst q
    rw [ns] at ns'
    cases ns'
    cases e
    exact ⟨Z,k⟩
  · exact h n' b' C' e ns'
def l_ (tab:List (Str×Bool)):PyData→Option PyData
  | .dict [(.none, .str n)]=>(tab.lookup n).map .bool
  | _=>none
theorem wW {K:PySem.W.Frag} {H:Hp} {v:V} {n:Str} (r:Rp K H v (.dict [(.none, .str n)])):∃a C o,v= .ref a∧H a=some (.frz o (.ext (eD a C)))∧PySem.W.nsIn K mainGlobals n=some (some (.ref C)):=by
  generalize e:PyData.dict [(PyData.none,PyData.str n)]=d at r
  cases r with
  | exc h1 h2=>cases e;exact ⟨_,_,_,rfl,h1,h2⟩
  | dct h1 h2=>
    cases h2 with
    | nil=>cases e
    | @cons k x us d kvs a b=>cases k <;> cases e
  | _=>cases e
section
variable {X:Cx} {e:Expr} {m1:Bool} {f:bY} {p p2 pos:Pos}
theorem qi {c:Value} {vc:V} {tab:List (Str×Bool)} (rc:∀u,RelV vc u→u=c) (T:XT X.K c tab):CallR X (.builtin "isinstance") (fun xs H Q=>∃x d r,xs=[x,vc]∧Rp X.K H x d∧l_ tab d=some r∧∀b,r= .bool b→Q (.bl b) H):=by
  intro pins s σ H xs us Q I r h
  obtain ⟨x,d,r',rfl,rp,hd,q⟩:=h
  obtain ⟨u,w',rfl,ru,rw'⟩:=r.two
  cases rc w' rw'
  unfold l_ at hd
  split at hd
  · rename_i n
    obtain ⟨b,eb,z⟩:=Option.map_eq_some_iff.mp hd
    obtain ⟨a,C,oz,rfl,ha,ns⟩:=wW rp
    obtain ⟨Z,k⟩:=T n b C eb ns
    cases (show u=Value.ref a from ru)
    exact PySem.W.kia_one (sy Z) I.kIn (show eD a C s.heap from (I.hok a _ ha).2.1) k (fun z=>nomatch z) fun tk=>⟨.bl b,H,I.tok _,rfl,q b z.symm⟩
  · cases hd
theorem uY {c:Value} {vc:V} {tab:List (Str×Bool)} (rc:∀u,RelV vc u→u=c) (T:XT X.K c tab) (hg:Gl X "isinstance") (hm:X.mg "isinstance"=none) (ha:EX X e m1 f) {x:Str} (h2:PE X (.Name x p2) (tC vc))
    (he:starEach [e, .Name x p2] X.env=(false,eval e X.env)::starEach [.Name x p2] X.env) (he2:starEach [.Name x p2] X.env=[(false,eval (.Name x p2) X.env)]) (hpl:(backTo pos (starEach [.Name x p2] X.env)).any (·.1)=false):
    EX X (.Call (.Name "isinstance" p) [e, .Name x p2] [] pos) m1 (gh (l_ tab) f):=by
  refine bq (eZ (qi rc T) hg hm PyProof.Rows.boot_isinstance (bi ha (bi h2 cQ he2) he) (by decide) (by decide) he hpl) fun σ H Q z=>?_
  obtain ⟨B,E,xs,Xs,res,E',fr,cl,e,q⟩:=z
  obtain ⟨⟨s,E1⟩,e1,e⟩:=Option.bind_eq_some_iff.mp e
  obtain ⟨d1,e2,e⟩:=Option.bind_eq_some_iff.mp e
  obtain ⟨d2,e3,e⟩:=Option.map_eq_some_iff.mp e
  cases e
  refine ⟨B,E,xs,Xs,s,E1,fr,cl,e1,fun v1 H1 ⟨F,A,fr1⟩=>?_⟩
  obtain ⟨A',fr2⟩:=fr1.pop
  exact ⟨v1,d1,d2,rfl,(fr1.look0 e2).1,e3,fun b z=>q _ _ ⟨F,A',fr2.push ⟨rfl,_,rfl,z▸ .bl b⟩⟩⟩
theorem ju {C:Addr} {tab:List (Str×Bool)} (hg:Gl X "isinstance") (hm:X.mg "isinstance"=none) (ha:EX X e m1 f) {x:Str} (hgx:Gl X x) (hmx:X.mg x=some (.ref C)) (T:XT X.K (.ref C) tab) (hdx:(x == ("__debug__":Str))=false:=by decide)
    (he:starEach [e, .Name x p2] X.env=(false,eval e X.env)::starEach [.Name x p2] X.env:=by rfl) (he2:starEach [.Name x p2] X.env=[(false,eval (.Name x p2) X.env)]:=by rfl) (hpl:(backTo pos (starEach [.Name x p2] X.env)).any (·.1)=false:=by rfl):
    EX X (.Call (.Name "isinstance" p) [e, .Name x p2] [] pos) m1 (gh (l_ tab) f):=uY (vc:= .ref C) (fun _ z=>z) T hg hm ha (oN (v:= .ref C) hgx hmx rfl hdx) he he2 hpl
end
structure RoomH (k:Nat) (A:Around):Prop where
  dp:A.depth+3*k+5 < recursionLimit
  un:A.units+16*k+200 < cLine
theorem RoomH.mono {j k:Nat} {A:Around} (r:RoomH k A) (h:j≤k):RoomH j A:=⟨by have:=r.dp;omega,by have:=r.un;omega⟩
theorem RoomH.deeper {k:Nat} {A:Around} (r:RoomH (k+1) A) (env:Env):RoomH k (A.deeper env):=
  ⟨by have:=r.dp;show A.depth+1+3*k+5 < _;omega,by have:=r.un;show A.units+3+16*k+200 < _;omega⟩
theorem RoomH.depth {k:Nat} {A:Around} (r:RoomH k A):A.depth < recursionLimit:=by have:=r.dp;omega
theorem RoomH.units {k:Nat} {A:Around} (r:RoomH k A):A.units+64 < cLine:=by have:=r.un;omega
theorem Room.mark {k:Nat} {A:Around} (r:Room k A) (v:Option Value):RoomH k (A.mark v):=⟨r.dp,r.un⟩
end PL
namespace PL
open PySem PySem.Spec PyProof.Rows L2 Nh
theorem qj (x:Bool) (xs:List Bool):yQ (.bl x) (xs.map .bl)=xs.contains x:=by
  induction xs with
  | nil=>rfl
  | cons y xs ih=>
    rw [List.contains_cons,←ih]
    show (ug (.bl y) (.bl x)||yQ (.bl x) (xs.map .bl))=_
    congr 1
    cases x <;> cases y <;> rfl
def sQ (neg:Bool):PyData→PyData→Option PyData
  | .bool x, .list ds=>(ie ds).map fun xs=> .bool (if neg then !xs.contains x else xs.contains x)
  | _,_=>none
section
variable {X:Cx} {a b:Expr} {m1 m2:Bool} {f g:bY} {pos:Pos}
theorem uZ (neg:Bool):gf X.K (zS X.K neg) (dD (sQ neg)):=by
  refine iJ fun d1 d2 d v1 v2 H Q e r1 r2=>?_
  unfold sQ at e
  split at e
  · obtain ⟨xs,ex,rfl⟩:=Option.map_eq_some_iff.mp e
    cases r1
    cases r2 with
    | lst h1 h2=>
      have z:=ng h2 ex
      subst z
      exact ⟨_,rfl,fun q=>⟨_,_,rfl, .inl h1,rfl,by simp [List.all_eq_true,hO],by rw [qj];exact q⟩⟩
  · cases e
theorem u0 (ha:EX X a m1 f) (hb:EX X b m2 g) (hm:behindInMarks .NotIn b=false:=by with_unfolding_all rfl):EX X (.Compare a [.NotIn] [b] pos) (m1||m2) (ah (dD (sQ true)) m2 f g):=nZ lz (uZ true) ha hb hm
end
end PL
namespace PL
open PySem L2 Nh PyProof.Rows
structure OwnMR (P:Program) (w:World) (K:PySem.W.Frag) (mg:Str→Option Value) (base:Heap) (k:Nat) (C:Addr) (m:Str) (ps:List Str) (sp:Sp):Prop where
  ex:∃(f:Addr) (fd:FuncData),FnOk P w K mg base (sI P w) k f fd ps sp∧Binds K fd ps []∧Meth K C m f
def li (P:Program) (w:World) (K:PySem.W.Frag) (mg:Str→Option Value) (base:Heap) (k:Nat) (m:Str) (r:List PyData→Option Str):Prop:=
  ∀(H:Hp) (v:V) (d:PyData) (n:Str),r [d]=some n→Rp K H v d→∃(p C dx:Addr) (fs:List (Str×V)),v= .ref p∧H p=some (.ins C dx fs)∧fs.lookup m=none∧Cls K C∧∃r':List PyData→Option Str,r' [d]=some n∧OwnMR P w K mg base k C m ["self"] (yW K r')
def nu (r:List PyData→Option Str) (g:bY):qC:=fun E=>(g E).bind fun a=>(look a.2 a.1).bind fun d=>(r [d]).map fun n=>(n,a.2)
section
variable {X:Cx} {k:Nat} {m:Str} {r:List PyData→Option Str} {pos apos:Pos} {o:Expr} {m1:Bool} {g:bY}
theorem qk {pl:Sem Bool} (D:li X.prog X.w X.K X.mg X.base k m r) (hr:Room k X.A) (he:EX X.nox o m1 g)
    (ht:eval (.Call (.Attribute o m apos) [] [] pos) X.env=(do
      let ov ←eval o X.env
      standAt apos.atName
      let (f,first) ←holding [ov] (getMethod ov m pl)
      callWith pos f first (backTo pos (starEach [] X.env)) (backToKw pos (keywordEach [] X.env))))
    {pins:List (Addr×Obj)} {s:Shared} {σ:L2.St} {H B:Hp} {E E':List Sl} {n:Str} (I:Inv X pins σ H s) (fr:Frm X.K B σ H E [] []) (ee:nu r g E=some (n,E')) (k:∀C H',PySem.W.nsIn X.K mainGlobals n=some (some (.ref C))→Frm X.K B σ H' E' [] []→uS X C pins σ H'):
    wpAny (model X.prog X.w) X.A (eval (.Call (.Attribute o m apos) [] [] pos) X.env) (fun _ _=>False) X.xe s:=by
  obtain ⟨⟨s1,E1⟩,e1,ee⟩:=Option.bind_eq_some_iff.mp ee
  obtain ⟨d,e2,ee⟩:=Option.bind_eq_some_iff.mp ee
  obtain ⟨n',e3,ee⟩:=Option.map_eq_some_iff.mp ee
  cases ee
  have q1:=he pins s σ H (fun v H1=>Frm X.K B σ H1 E1 [v] [s1]) (I.wish _) ⟨B,E,[],[],s1,E1,fr,fun _=>Calm.nil rfl,e1,fun v H1 f=>f⟩
  refine PySem.W.methodCall_KW (pl:=pl) (wpAny_mono q1 (fun u t1 ⟨v,H1,I1,rv,F1,A1,fr1⟩=>?_) fun _ _ z=>z.elim) ht
  have I1:=I1.unwish
  have rp:=(fr1.look0 e2).1
  obtain ⟨p,C,dx,fs,rfl,hp,l,c1,r',e3',f0,fd,F,b,mt⟩:=D H1 v d n e3 rp
  obtain rfl:u=Value.ref p:=rv
  obtain ⟨A',fr2⟩:=fr1.pop
  refine gV I1 hp c1 mt l ?_
  refine PySem.W.callWith_K0 (first:=[.ref p]) I1.kIn mt.kp ?_
  have rv:Vals [V.ref p] [Value.ref p]:= .cons rfl .nil
  have hlen:([Value.ref p]++[]).length=(["self"]:List Str).length:=rfl
  have bd:=b t1 [.ref p] I1.kIn hlen
  rw [List.append_nil] at bd
  refine wpAny_call (codeAny_mono (F.run X.A X.stack t1 H1 ⟨[.ref p],[]⟩ [.ref p] [.ref p] (fun _ _=>False) (fun c _ H'=>∃C,c= .ref C∧PySem.W.nsIn X.K mainGlobals n=some (some (.ref C))∧Same H1 H') hr I1.env0 bd rv ⟨[d],n,e3', .cons rp .nil,fun C H' z g=>⟨C,rfl,z,g⟩⟩) fun rr s' hq=>?_)
  cases rr with
  | error er=>
    obtain ⟨H',ea,C,a0,B',rfl,⟨C',eC,ns,g⟩,os,bare,fl,hok,u⟩:=hq
    cases eC
    exact k C H' ns ⟨_,_,fr2.grow g⟩ H1 t1 ea s' a0 B' I1 os bare fl hok u
  | ok fl=>
    cases fl with
    | ret u=>obtain ⟨_,_,_,_,_,_,_,z⟩:=hq;exact z
    | next=>exact False.elim hq
    | brk=>exact False.elim hq
    | cont=>exact False.elim hq
theorem sR {pl:Sem Bool} {epos:Pos} (D:li X.prog X.w X.K X.mg X.base k m r) (hr:Room k X.A) (he:EX X.nox o m1 g) (hs:swapsWith (.Call (.Attribute o m apos) [] [] pos) none epos.line X.env=pure false:=by rfl)
    (ht:eval (.Call (.Attribute o m apos) [] [] pos) X.env=(do
      let ov ←eval o X.env
      standAt apos.atName
      let (f,first) ←holding [ov] (getMethod ov m pl)
      callWith pos f first (backTo pos (starEach [] X.env)) (backToKw pos (keywordEach [] X.env))):=by rfl) {mk al:Bool}:
    RX X mk al (.Expr (.Call (.Attribute o m apos) [] [] pos) epos) (nu r g):=fun pins s σ H B E n E' I fr ee k=>
  wpAny_Expr_any (cI (qk D hr he ht I fr ee fun C H' z f=>(k pins (fun _=>rfl) σ C H' z f).2.1) fun _ _ z=>z.elim) I.quiet hs
end
theorem zw {P:Program} {w:World} {K:PySem.W.Frag} {mg:Str→Option Value} {base:Heap} {x qn:Str} {st:Stmt} {N ps:List Str} {k a n:Nat} {r:qC} {mk al:Bool} {f:Addr} {fd:FuncData} (F:Fun K x qn st f fd) (S:FnScope N ps (aj st)) (hpa:ps.length=a) (hNn:N.length=n) (hps:a≤n)
    (hbody:∀(cdv:Value) (A:Around) (outer:List Env) (s:Shared) (H:Hp) (E:XK),Room k (A.deeper (PyProof.Rows.envOfC qn (aj st) s.heap.objs.size f cdv))→
      yU (gq (sI P w) P w K mg base N qn (aj st) f cdv A outer s H E) mk al (bj st) r):FnOk P w K mg base (sI P w) (k+1) f fd ps (yW K (yq a n r)):=by
  subst hpa hNn
  obtain ⟨oc,od,kV,doc,pm,an,cdv,ct,osl,rfl,lk,hcd⟩:=F.ex
  refine vq lk hcd S (fun vs H Q E h=>?_) fun A outer s H vs Q E hr h=>?_
  · obtain ⟨ds,n,e,rp,_⟩:=h
    unfold yq at e
    split at e
    · rename_i hl
      rw [rp.len];exact hl
    · cases e
  obtain ⟨ds,n,e,rp,q⟩:=h
  unfold yq at e
  split at e
  · rename_i hl
    obtain ⟨⟨n',E'⟩,er,z⟩:=Option.map_eq_some_iff.mp e
    cases z
    refine ⟨fun D σ H'=>σ=cy N vs∧H'=H,fun pins s1 σ H1 D I z=>?_,rfl,rfl⟩
    obtain ⟨rfl,rfl⟩:=z
    refine cI (hbody cdv A outer s H1 E hr pins s1 _ H1 H1 (aI N.length ds) n' E' I ⟨H1,[],jq rp (by omega)⟩ er fun _ _ σ' C H' ns ⟨F',A',fr'⟩=>?_) fun _ _ z=>z.elim
    have hE:=q C H' ns (fr'.bf.trans fr'.fh)
    exact ⟨fun _=>uT hE,wT hE,fun _=>uU hE⟩
  · cases e
def sS (cs:List Str) (r:List PyData→Option Str):List PyData→Option Str
  | [.dict ((.none, .tuple [.str cn])::kvs)]=>if cs.contains cn then r [cR cn kvs] else none
  | _=>none
theorem sT {P:Program} {w:World} {K:PySem.W.Frag} {mg:Str→Option Value} {base:Heap} {k:Nat} {m:Str} {cs:List Str} {r:List PyData→Option Str} (hm:m∈i3) (h:∀cn∈cs,∃C,ClsOk K mg cn C∧OwnMR P w K mg base k C m ["self"] (yW K r)):li P w K mg base k m (sS cs r):=by
  intro H v d n e rp
  unfold sS at e
  split at e
  · rename_i ds cn kvs ed
    cases ed
    split at e
    · rename_i hc
      obtain ⟨C,ck,ow⟩:=h cn (by simpa using hc)
      obtain ⟨p,C',dx,fs,rfl,ns,hp,nm,_⟩:=iU rp
      rw [ck.ns] at ns
      cases ns
      exact ⟨p,C,dx,fs,rfl,hp,nm m hm,ck.cl,r,e,ow⟩
    · cases e
  · cases e
open PySem.W (fnOf) in
theorem HM.ownR {P:Program} {w:World} {K:PySem.W.Frag} {mg:Str→Option Value} {base:Heap} {k:Nat} {C:Addr} {m qn:Str} {st:Stmt} {ps:List Str} {sp:Sp} (h:HM K C m qn st) (F:∀f fd,Fun K m qn st f fd→FnOk P w K mg base (sI P w) k f fd ps sp) (b:∀(kV doc pm:Value) (an:Option Addr) (cdv ct:Value) (us:List Value),us.length=ps.length→bindArgs (fnOf m qn (b7 st) (bj st) (aj st) .none kV doc pm an cdv ct) ⟨us,[]⟩=pure (ps.zip us)):OwnMR P w K mg base k C m ps sp:=by
  obtain ⟨f,oc,od,an,sl,kV,dc,pm,cd,ct,a,i,l,c,kp⟩:=h
  have D:=iH (st:=st) l c kp
  exact ⟨f,_,F _ _ D,D.binds b,a,i,kp⟩
end PL
namespace PL
open PySem PySem.Calls L2 Nh PyProof.Rows
def fc:List PyData→Option PyData
  | [.int n]=>if n.natAbs.log2 < 1920 then some (.str (Str.ofString (toString n))) else none
  | _=>none
section
variable {X:Cx} {e e2:Expr} {m1:Bool} {g:kP} {x:Str} {p pos apos cpos:Pos}
theorem ql:CallR X (.type "str") (fun xs H Q=>∃n,xs=[.int n]∧n.natAbs.log2 < 1920∧Q (.str (Str.ofString (toString n))) H):=by
  intro pins s σ H xs us Q I r h
  obtain ⟨n,rfl,hn,q⟩:=h
  obtain ⟨u,rfl,ru⟩:=r.one
  obtain ⟨t,rfl⟩:=ru
  exact PySem.P.str_of_int hn ⟨.str _,H,I.tok _,⟨_,rfl⟩,q⟩
theorem jv (hg:Gl X "str") (hm:X.mg "str"=none) (ha:AX X [e] m1 g) (he:starEach [e] X.env=[(false,eval e X.env)]:=by rfl):EX X (.Call (.Name "str" p) [e] [] pos) m1 (bB fc g):=
  bq (gJ ql hg hm PyProof.Rows.boot_str ha (by decide) (by decide) he rfl) fun _ _ _ z=>n5 (fun ds d vs H Q e r=>by
    unfold fc at e
    split at e
    · split at e
      · rename_i hn
        cases e
        obtain ⟨v,rfl,r'⟩:=r.one
        cases r'
        exact ⟨_,rfl,fun q=>⟨_,rfl,hn,q⟩⟩
      · cases e
    · cases e) z
end
end PL
namespace PL
open PySem L2 Nh
def sU:Expr→Bool
  | .Starred .. =>false
  | _=>true
theorem u3 {e:Expr} {es:List Expr} {env:Env} (h:sU e=true):starEach (e::es) env=(false,eval e env)::starEach es env:=by
  cases e <;> first | rfl | cases h
inductive DL (X:Cx):List Expr→Bool→jK→Prop
  | nil:DL X [] false bC
  | cons {e:Expr} {es:List Expr} {m1 m2:Bool} {f:bY} {d:jK}:EX X e m1 f→sU e=true→DL X es m2 d→DL X (e::es) (m1||m2) (aL f d)
section
variable {X:Cx} {es:List Expr} {m:Bool} {d:jK} {pos:Pos}
theorem DL.dx (h:DL X es m d):DX X es m d:=by
  induction h with
  | nil=>exact wx
  | cons a n _ ih=>exact uB a ih (u3 n)
theorem df (h:DL X es m d):EX X (.List es pos) m (b9 d):=wz h.dx
theorem g7 {x1} (h:DL X es m d):EX X (.Tuple es x1 pos) m (gQ d):=wy h.dx
end
def p0:Expr→List Expr
  | .List es _=>es
  | .Tuple es _ _=>es
  | _=>[]
end PL
namespace NH
section
variable {α:Type} [DecidableEq α]
def Rot (a b:List (α×Int)):Prop:=∃u v,a=u++v∧b=v++u
theorem Rot.refl (a:List (α×Int)):Rot a a:=⟨[],a,rfl,by simp⟩
theorem Rot.symm {a b:List (α×Int)} (h:Rot a b):Rot b a:=let ⟨u,v,e,f⟩:=h;⟨v,u,f,e⟩
theorem Rot.trans {a b c:List (α×Int)} (h:Rot a b) (k:Rot b c):Rot a c:=by
  obtain ⟨u,v,rfl,e⟩:=h
  obtain ⟨x,y,e2,rfl⟩:=k
  rw [e] at e2
  rcases List.append_eq_append_iff.mp e2 with ⟨w,e3,e4⟩ | ⟨w,e3,e4⟩
  · subst e3 e4
    exact ⟨w,y++v,by simp,by simp⟩
  · subst e3 e4
    exact ⟨u++x,w,by simp,by simp⟩
theorem Rot.eq {a b:List (α×Int)} (h:a=b):Rot a b:=h▸Rot.refl a
theorem Rot.len {a b:List (α×Int)} (h:Rot a b):a.length=b.length:=by
  obtain ⟨u,v,rfl,rfl⟩:=h
  simp [Nat.add_comm]
end
end NH
namespace NH
variable {α:Type} [DecidableEq α]
end NH
namespace Nh
open PySem L2 PL
theorem sV {p q:Pc} (hp:p.1 < 128) (hq:q.1 < 128):mS (aJ p) (aJ q)=some (decide (p=q)):=by
  have s:∀{p:Pc},p.1 < 128→SeqAt.shaped (aJ p)=true:=fun {p} h=>by
    have h1:=yf h
    unfold SeqAt.shaped
    rw [h1]
    simp [aJ,PyData.depth,PyData.depthAll]
  have e:mS (aJ p) (aJ q)=(if SeqAt.shaped (aJ p)&&SeqAt.shaped (aJ q) then some (PyData.eqv (aJ p) (aJ q)) else none):=rfl
  rw [e,s hp,s hq,wr]
  rfl
end Nh
namespace NH
def zx:Nat→Nat→Nat
  | _,0=>1
  | 0,_+1=>0
  | n+1,k+1=>zx n (k+1)+zx n k
def zy:Nat→Nat→Int
  | _,0=>1
  | 0,_+1=>0
  | m+1,k+1=>zy m (k+1) - zy (m+1) k
def ch (n:Int) (k:Nat):Int:=match n with
  | .ofNat n=>(zx n k:Int)
  | .negSucc m=>zy (m+1) k
def ff (n:Int):Nat→Int
  | 0=>1
  | k+1=>ff n k*(n - k)
section
variable {α:Type}
def conv (f g:List α→Int):List α→Int
  | []=>f []*g []
  | a::w=>f []*g (a::w)+conv (fun u=>f (a::u)) g w
def An:List α→Int
  | []=>1
  | _::_=>0
end
section
variable {α:Type} [DecidableEq α]
def yr (p:α×Int) (w:List α):Int:=if w.all (fun b=>decide (b=p.1)) then ch p.2 w.length else 0
def Ab (w:List α) (c:List (α×Int)):Int:=c.foldr (fun p f=>conv (yr p) f) An w
def vs (j:Nat) (m n:Int):Nat→Int
  | 0=>ch m j
  | k+1=>ch m j*ch n (k+1)+vs (j+1) m n k
end
end NH
namespace NH
variable {α:Type} [DecidableEq α]
end NH
namespace Nh
open PySem L2 PL
def CordOk (c:List Pc):Prop:=∀p∈c,p.1 < 128∧p.2.natAbs < 2 ^ 100
theorem CordOk.n {c:List Pc} (h:CordOk c):NailsOk c:=fun p hp=>(h p hp).1
theorem CordOk.append {c d:List Pc} (h:CordOk c) (h':CordOk d):CordOk (c++d):=fun p hp=>(List.mem_append.mp hp).elim (h p) (h' p)
theorem CordOk.contr {c:List Pc} (h:CordOk c):CordOk (NH.contr c):=fun p hp=>by
  obtain ⟨q,hq,e⟩:=List.mem_map.mp hp
  subst e
  have:=h q (List.mem_reverse.mp hq)
  exact ⟨this.1,by simpa using this.2⟩
end Nh
namespace NH
open PySem PySem.NumText PyProof.Rows PySem.W PySem.W.KIN
def dg (m:Nat):List Nat:=(Nat.toDigits 10 m).map Char.toNat
theorem jY {m:Nat} (h:m < 10):dg m=[(Nat.digitChar m).toNat]:=by unfold dg;rw [Nat.toDigits_of_lt_base h];rfl
theorem u4 {m:Nat} (h:¬m < 10):dg m=dg (m / 10)++dg (m % 10):=by
  have hm:m % 10 < 10:=Nat.mod_lt m (by decide)
  have t:Nat.toDigits 10 (m / 10)++Nat.toDigits 10 (m % 10)=Nat.toDigits 10 (10*(m / 10)+m % 10):=Nat.toDigits_append_toDigits (by decide) (by omega) hm
  rw [Nat.div_add_mod] at t
  unfold dg
  rw [←t,List.map_append]
theorem sW (k:Nat):∀m:Nat,m < 10 ^ (k+1)→(dg m).length≤k+1:=by
  induction k with
  | zero=>intro m h;rw [jY (by simpa using h)];simp
  | succ k ih=>
    intro m h
    by_cases hm:m < 10
    · rw [jY hm];simp
    · rw [u4 hm,jY (Nat.mod_lt m (by decide)),List.length_append]
      have:=ih (m / 10) (by rw [Nat.pow_succ] at h;omega)
      simp only [List.length_cons,List.length_nil]
      omega
def jZ (t:Int):List Nat:=(Str.ofString (toString t)).cps.toList
theorem wX (m:Nat):jZ (m:Int)=dg m:=signs_num m
theorem wY (m:Nat):jZ (Int.negSucc m)=45::dg (m+1):=by
  unfold jZ
  rw [signs_ofString]
  show (("-"++Nat.repr (m+1)).toList).map Char.toNat=_
  rw [String.toList_append,List.map_append,Nat.toList_repr]
  rfl
theorem ma {t:Int} (h1:t.natAbs < 10 ^ 30):(jZ t).length≤31:=by
  cases t with
  | ofNat m=>rw [show jZ (Int.ofNat m)=dg m from wX m];have:(dg m).length≤30:=sW 29 m h1;omega
  | negSucc m=>rw [wY];have:(dg (m+1)).length≤30:=sW 29 (m+1) h1;simp;omega
end NH
namespace Nh
open PySem L2 PL
def lp (p q:Pc):Bool:=if p.1=q.1 then decide (p.2 < q.2) else decide (p.1 < q.1)
def ll:List Pc→List Pc→Bool
  | [],[]=>false
  | [],_::_=>true
  | _::_,[]=>false
  | x::xs,y::ys=>if x=y then ll xs ys else lp x y
theorem sX {p q:Pc} (h:p≠q):lp p q=true∨lp q p=true:=by
  unfold lp
  by_cases e:p.1=q.1
  · rw [if_pos e,if_pos e.symm]
    simp only [decide_eq_true_eq]
    have:p.2≠q.2:=fun z=>h (by cases p;cases q;simp_all)
    omega
  · rw [if_neg e,if_neg (fun z=>e z.symm)]
    simp only [decide_eq_true_eq]
    omega
theorem nv:∀{a b:List Pc},a≠b→ll a b=true∨ll b a=true
  | [],[],h=>absurd rfl h
  | [],_::_,_=> .inl rfl
  | _::_,[],_=> .inr rfl
  | x::a,y::b,h=>by
    unfold ll
    by_cases e:x=y
    · subst e
      rw [if_pos rfl,if_pos rfl]
      exact nv fun z=>h (by rw [z])
    · rw [if_neg e,if_neg (fun z=>e z.symm)]
      exact sX e
def yX (a:List Pc) (p:Nat):List Pc:=a.drop p++a.take p
def Least (a w:List Pc):Prop:=(∃p,p≤a.length∧w=yX a p)∧∀p,p≤a.length→ll (yX a p) w=false
theorem Least.one {a w w':List Pc} (h:Least a w) (h':Least a w'):w=w':=by
  obtain ⟨⟨p,hp,rfl⟩,k⟩:=h
  obtain ⟨⟨p',hp',rfl⟩,k'⟩:=h'
  by_cases e:yX a p=yX a p'
  · exact e
  · rcases nv e with z | z
    · rw [k' p hp] at z;cases z
    · rw [k p' hp'] at z;cases z
end Nh
namespace NH
variable {α:Type} [DecidableEq α]
end NH
namespace Nhk62
open PySem L2 Nh PL
def g8:List (Str×Bool):=[("TooLong",false)]
def g9:List (Str×Bool):=[("TooLong",false)]
def gw:List (Str×Bool):=[("TooLong",false)]
def gy:List (Str×Bool):=[("TooLong",true)]
def sY:List (Str×Bool):=[("TooLong",false)]
def qm:List (Str×Bool):=[("TooLong",false)]
def qo:List (Str×Bool):=[("TooLong",false)]
def qp:List (Str×Bool):=[("TooLong",false)]
def sZ:List (Str×Bool):=[("TooLong",false)]
def j0:List (Str×Bool):=[("TooLong",true)]
def dP:i7:=(gk 2 (cq (bt 0) (cq (bt 1) gj)))
def cV:bY:=(gQ (aL (ae 0) (aL (gh gs (ae 1)) bC)))
def fW:bP:=(aD (e_ [none,none] (m6 (ae 0)) dP dY cV))
def bS:List PyData→Option Sl:=cO 1 1 fW
def cW:bP:=(aD (tP (dH (ah o7 false (ae 0) (pC (.int 1)))) (pC (.str "")) (bB fc (af false (ae 0) aq))))
def aS:List PyData→Option Sl:=cO 1 1 cW
def fe:bP:=(aD (ah dF false (tP (dH (ah (dD (eG .lt)) false (ae 1) (pC (.int 0)))) (au bS (af false (ae 0) aq)) (ae 0)) (bB rN (af false (ae 1) aq))))
def b6:List PyData→Option Sl:=cO 2 2 fe
def cK:bP:=(aD (ah aC false (ah aC false (ah aC false (ae 0) (ae 1)) (au bS (af false (ae 0) aq))) (au bS (af false (ae 1) aq))))
def aQ:List PyData→Option Sl:=cO 2 2 cK
def dQ:bP:=(aD (bx ["Piece","Parts","Times","Back"] "size" (ae 0)))
def bu:List PyData→Option Sl:=cO 1 1 dQ
def eJ:bP:=(aD (b9 (aL (gQ (aL (bx ["Piece"] "nail" (ae 0)) (aL (bx ["Piece"] "turns" (ae 0)) bC))) bC)))
def cX:List PyData→Option Sl:=cO 1 1 eJ
def eK:bP:=(aD (ah aC false (bx ["Piece"] "nail" (ae 0)) (au aS (af false (bx ["Piece"] "turns" (ae 0)) aq))))
def cY:List PyData→Option Sl:=cO 1 1 eK
def d0 (self:List PyData→Option Sl):bP:=(az (bn (dH (ah (dD (eG .gt)) false (bx ["Piece","Parts","Times","Back"] "size" (ae 0)) (pC (.int 4000))))
  wJ
  aM)
  (aD (tP (dH (ah (dD (eG .gt)) false (bx ["Piece","Parts","Times","Back"] "size" (ae 0)) (pC (.int 0)))) (a7 self (ae 0)) (b9 bC))))
def bp (self:List PyData→Option Sl):List PyData→Option Sl:=cO 1 1 (d0 self)
def ft:qC:=(yV (dH (ah (dD (eG .gt)) false (bx ["Piece","Parts","Times","Back"] "size" (ae 0)) (pC (.int 4000)))) (sL "TooLong"))
def du:List PyData→Option Str:=yq 1 1 ft
def bM:i7:=(bt 2)
def bN (self:List PyData→Option Sl):bP:=(fm (jt 1 (a7 self (ae 2))))
def eL (self:List PyData→Option Sl):bP:=(az (aH 1 (b9 bC))
  (az (h7 (iO (bx ["Parts"] "kept" (ae 0))) bM
  (bN self))
  (aD (ae 1))))
def cZ (self:List PyData→Option Sl):List PyData→Option Sl:=cO 1 3 (eL self)
def db:i7:=(bt 0)
def b_ (self:List PyData→Option Sl):bY:=(a7 self (ae 0))
def eM (self:List PyData→Option Sl):bP:=(aD (sf "" (e_ [none] (iO (bx ["Parts"] "kept" (ae 0))) db dY (b_ self))))
def c0 (self:List PyData→Option Sl):List PyData→Option Sl:=cO 1 1 (eM self)
def eN (self:List PyData→Option Sl):bP:=(aD (au b6 (af false (a7 self (bx ["Times"] "body" (ae 0))) (af false (bx ["Times"] "number" (ae 0)) aq))))
def c8 (self:List PyData→Option Sl):List PyData→Option Sl:=cO 1 1 (eN self)
def eO (self:List PyData→Option Sl):bP:=(aD (ah aC false (ah aC false (ah aC false (pC (.str "(")) (a7 self (bx ["Times"] "body" (ae 0)))) (pC (.str ")"))) (au aS (af false (bx ["Times"] "number" (ae 0)) aq))))
def c9 (self:List PyData→Option Sl):List PyData→Option Sl:=cO 1 1 (eO self)
def fu (self:List PyData→Option Sl):bP:=(aD (au aQ (af false (a7 self (bx ["Back"] "one" (ae 0))) (af false (a7 self (bx ["Back"] "other" (ae 0))) aq))))
def dv (self:List PyData→Option Sl):List PyData→Option Sl:=cO 1 1 (fu self)
def fv (self:List PyData→Option Sl):bP:=(aD (ah aC false (ah aC false (ah aC false (ah aC false (pC (.str "[")) (a7 self (bx ["Back"] "one" (ae 0)))) (pC (.str ","))) (a7 self (bx ["Back"] "other" (ae 0)))) (pC (.str "]"))))
def dw (self:List PyData→Option Sl):List PyData→Option Sl:=cO 1 1 (fv self)
def ai:List PyData→Option Sl:=gS [("Piece",bu),("Parts",bu),("Times",bu),("Back",bu)]
def cT:Nat→List PyData→Option Sl
  | 0=>fun _=>none
  | n+1=>gS [("Piece",cY),("Parts",c0 (cT n)),("Times",c9 (cT n)),("Back",dw (cT n))]
def oy (m:List PyData→Option Sl):List PyData→Option Sl:=gS [("Piece",bp m),("Parts",bp m),("Times",bp m),("Back",bp m)]
def cM:Nat→List PyData→Option Sl
  | 0=>fun _=>none
  | n+1=>gS [("Piece",cX),("Parts",cZ (oy (cM n))),("Times",c8 (oy (cM n))),("Back",dv (oy (cM n)))]
def tab_is_Term:List (Str×Bool):=[("Piece",true),("Parts",true),("Times",true),("Back",true)]
def dL:List PyData→Option Str:=sS ["Piece","Parts","Times","Back"] du
def bT:List PyData→Option Sl:=cT 33
def bU:List PyData→Option Sl:=oy (cM 33)
def il:bP:=(az (bn (dH (ah (dD (eG .lt)) false (ae 1) (bB dX (af false (ae 0) aq))))
  (aD (ah fi false (ae 0) (ae 1)))
  aM)
  (aD (pC (.int 0))))
def bh:List PyData→Option Sl:=cO 2 2 il
def gN:bP:=(az (aH 2 (ah aC false (ah aC false (ah fj false (ae 0) (pC (.int 2305843009213693951))) (ah dF false (pC (.int 131)) (ae 1))) (pC (.int 17))))
  (az (aH 2 (ah fj false (ah dF false (ae 2) (ah aC false (pC (.int 2862933555777941757)) (ah dF false (ah dF false (pC (.int 2)) (ae 1)) (ae 1)))) (pC (.int 2305843009213693951))))
  (aD (ah e8 false (ah fj false (ah dF false (ah aC false (ah e8 false (ae 2) (pC (.int 8191))) (ah dF false (ae 1) (ae 1))) (pC (.int 3935559000370003845))) (pC (.int 2305843009213693921))) (pC (.int 7))))))
def bI:List PyData→Option Sl:=cO 2 3 gN
def aT:List PyData→List PyData→Option (Sl×List PyData):=fun ds0 ds=>match ds0,ds with
  | [.int r],[.int m]=>if gr m then some (.sh (.int (r % m)),[.int (r / m)]) else none
  | _,_=>none
theorem fX (ds0 ds:List PyData) (r:Sl×List PyData) (h:aT ds0 ds=some r):∃d,r.1= .sh d:=by
  unfold aT at h
  split at h
  · split at h
    · cases h;exact ⟨_,rfl⟩
    · cases h
  · cases h
def c_:i7:=(bt 6)
def da:bP:=(az (aH 7 (ah fi true (ae 1) (eI 5 aT (af false (bB dX (af false (ae 1) aq)) aq))))
  (fm (dk 4 (gQ (aL (ae 7) (aL (ah dE false (eI 5 aT (af false (ah aC false (ah dF false (pC (.int 2)) (ae 2)) (pC (.int 1))) aq)) (ae 2)) bC))))))
def ce:i7:=(bt 6)
def cg:bP:=(az (aH 7 (ah fi false (ae 1) (ah fj false (au bI (af false (ae 0) (af false (ah aC false (ah dF false (pC (.int 2)) (ae 6)) (pC (.int 1))) aq))) (bB dX (af false (ae 1) aq)))))
  (fm (dk 4 (gQ (aL (ae 7) (aL (ah dE false (ah fj false (au bI (af false (ae 0) (af false (ah aC false (ah dF false (pC (.int 2)) (ae 6)) (pC (.int 2))) aq))) (ah aC false (ah dF false (pC (.int 2)) (ae 2)) (pC (.int 1)))) (ae 2)) bC))))))
def dM:bP:=(az (aH 4 (b9 bC))
  (az (bn (aW (dH (gY (eG .lt) (eG .lt) false false (gh gs (ah hW false (pC (.int 10)) (pC (.int 18)))) (ae 0) (ah hW false (pC (.int 10)) (pC (.int 18))))))
  (az (aH 5 (b9 (aL (ae 0) bC)))
  (az (h7 (iM (af false (eI 5 aT (af false (ah aC false (ae 3) (pC (.int 1))) aq)) aq)) c_
  da)
  (aD (ae 4))))
  aM)
  (az (h7 (iM (af false (ah fj false (au bI (af false (ae 0) (af false (pC (.int 0)) aq))) (ah aC false (ae 3) (pC (.int 1)))) aq)) ce
  cg)
  (aD (ae 4)))))
def aX:List PyData→Option Sl:=cO 4 8 dM
def cC:i7:=(gk 2 (cq (bt 0) (cq (bt 1) gj)))
def bV:bY:=(gQ (aL (ae 0) (aL (gh gs (ae 1)) bC)))
def dy:bP:=(aD (e_ [none,none] (m6 (ae 0)) cC dY bV))
def aN:List PyData→Option Sl:=cO 1 1 dy
def cG:i7:=(gk 2 (cq (bt 2) (cq (bt 3) gj)))
def cH:bP:=(az (bn (eg (aW (b8 (gh (ji .tuple) (ae 2)))) (eg (dH (ah fS false (bB dX (af false (ae 2) aq)) (pC (.int 2)))) (aW (b8 (gh (ji .str) (ah fi false (ae 2) (pC (.int 0))))))))
  (aD (pC (.bool false)))
  aM)
  (bn (eg (aW (b8 (gh (ji .int) (ah fi false (ae 2) (pC (.int 1)))))) (eg (b8 (gh (ji .bool) (ah fi false (ae 2) (pC (.int 1))))) (dH (ah fS false (ae 2) (ae 3)))))
  (aD (pC (.bool false)))
  aM))
def fw:bP:=(az (bn (eg (aW (b8 (gh (ji .list) (ae 0)))) (dH (ah fS false (bB dX (af false (ae 0) aq)) (bB dX (af false (ae 1) aq)))))
  (aD (pC (.bool false)))
  aM)
  (az (h7 (m8 (ae 0) (ae 1)) cG
  cH)
  (aD (pC (.bool true)))))
def bW:List PyData→Option Sl:=cO 2 4 fw
def ci:i7:=(gk 2 (cq (bt 2) (cq (bt 3) gj)))
def cj:bP:=(aH 1 (ah aC false (ah aC false (ae 1) (ae 2)) (ah gl false (bB fc (af false (ae 3) aq)) (bB iR (af false (ah fS false (ae 3) (pC (.int 1))) aq)))))
def fY:bP:=(az (aH 1 (pC (.str "")))
  (az (h7 (iO (ae 0)) ci
  cj)
  (aD (ae 1))))
def aR:List PyData→Option Sl:=cO 1 4 fY
def im:bP:=(az (bn (eg (aW (b8 (gh (p_ tab_is_Term) (ae 0)))) (eg (b8 (gh (ji .bool) (a7 ai (ae 0)))) (dH (ah fS false (a7 ai (ae 0)) (bB dX (af false (ae 1) aq))))))
  (aD (pC (.bool false)))
  aM)
  (az (aH 3 (a7 bU (ae 0)))
  (az (bn (eg (aW (b8 (au bW (af false (ae 3) (af false (ae 1) aq))))) (dH (ah fS false (a7 bT (ae 0)) (ae 2))))
  (aD (pC (.bool false)))
  aM)
  (az (fm (dk 3 (gQ (aL (pC (.str "z")) (aL (pC (.int 1)) bC)))))
  (aD (gu (au bW (af false (a7 bU (ae 0)) (af false (ae 1) aq))) (ah o7 false (a7 ai (ae 0)) (bB dX (af false (ae 1) aq)))))))))
def ax:List PyData→Option Sl:=cO 3 4 im
def d_:bP:=(az (bn (dH (ah (dD (eG .lt)) false (ae 1) (pC (.int 0))))
  (aD (ah dF false (au aN (af false (ae 0) aq)) (gh gs (ae 1))))
  aM)
  (aD (ah dF false (ae 0) (ae 1))))
def aB:List PyData→Option Sl:=cO 2 2 d_
def dz:bP:=(az (bn (dH (ah fS false (a7 ai (ae 0)) (ae 1)))
  (aD (pC (.bool false)))
  aM)
  (az (uW ["TooLong"] 2 (nu dL (ae 0)) (fm (a7 bU (ae 0))) (az (aH 3 (b9 (aL (gh (l_ g8) (ae 2)) (aL (gh (l_ g9) (ae 2)) (aL (gh (l_ gw) (ae 2)) bC)))))
  (aD (gu (gh (l_ gy) (ae 2)) (ah (dD (sQ true)) false (pC (.bool true)) (ae 3))))))
  (aD (pC (.bool false)))))
def aU:List PyData→Option Sl:=cO 2 4 dz
def fg:bP:=(az (bn (dH (ah o7 false (ae 1) (pC (.int 0))))
  (aD (ah o7 false (a7 bU (bg "Times" (bA ai) (af false (ae 0) (af false (ah hW false (pC (.int 10)) (pC (.int 20))) aq)))) (b9 bC)))
  aM)
  (az (aH 3 (ah aC false (ah aC false (ah e8 false (pC (.int 4000)) (ae 1)) (pC (.int 1))) (ah fj false (ae 2) (ah hW false (pC (.int 10)) (pC (.int 20))))))
  (az (bn (aW (b8 (au aU (af false (bg "Times" (bA ai) (af false (ae 0) (af false (ah dE false (pC (.int 0)) (ae 3)) aq))) (af false (ah dF false (ae 1) (ae 3)) aq)))))
  (aD (pC (.bool false)))
  aM)
  (az (aH 4 (bg "Times" (bA ai) (af false (ae 0) (af false (ah aC false (ah e8 false (pC (.int 2000)) (ae 1)) (pC (.int 1))) aq))))
  (az (bn (aW (b8 (au aU (af false (bg "Back" (fb ai) (af false (ae 4) (af false (bg "Piece" cJ (af false (pC (.str "z")) (af false (pC (.int 2)) aq))) aq))) (af false (ah aC false (ah dF false (ah dF false (pC (.int 2)) (ae 1)) (ah aC false (ah e8 false (pC (.int 2000)) (ae 1)) (pC (.int 1)))) (pC (.int 2))) aq)))))
  (aD (pC (.bool false)))
  aM)
  (aD (gu (ah o7 false (a7 bU (bg "Times" (bA ai) (af false (bg "Times" (bA ai) (af false (ae 0) (af false (ae 3) aq))) (af false (pC (.int 0)) aq)))) (b9 bC)) (ah o7 false (bB dX (af false (a7 bU (bg "Times" (bA ai) (af false (ae 0) (af false (ah e8 false (pC (.int 4000)) (ae 1)) aq)))) aq)) (ah dF false (ah e8 false (pC (.int 4000)) (ae 1)) (ae 1))))))))))
def aY:List PyData→Option Sl:=cO 3 5 fg
def bZ:i7:=(gk 2 (cq (bt 2) (cq (bt 3) gj)))
def b5:bP:=(bn (eg (dH (ah fS false (gQ (aL (bx ["Piece"] "nail" (ae 2)) (aL (bx ["Piece"] "turns" (ae 2)) bC))) (ae 3))) (aW (b8 (au ax (af false (ae 2) (af false (b9 (aL (ae 3) bC)) (af false (au aR (af false (b9 (aL (ae 3) bC)) aq)) aq)))))))
  (aD (pC (.bool false)))
  aM)
def dR:bP:=(az (h7 (m8 (ae 0) (ae 1)) bZ
  b5)
  (aD (pC (.bool true))))
def bv:List PyData→Option Sl:=cO 2 4 dR
def fL:i7:=(gk 2 (cq (bt 0) (cq (bt 1) gj)))
def fM:bY:=(bg "Piece" cJ (af false (ae 0) (af false (ae 1) aq)))
def io:i7:=(gk 2 (cq (bt 0) (cq (bt 1) gj)))
def ip:bY:=(bg "Piece" cJ (af false (ae 0) (af false (ae 1) aq)))
def lj:bP:=(az (aH 1 (ah fi false (b9 (aL (pC (.int 3)) (aL (ah dE false (ah hW false (pC (.int 10)) (pC (.int 30))) (pC (.int 1))) bC))) (ah fj false (ah e8 false (au bh (af false (ae 0) (af false (pC (.int 0)) aq))) (pC (.int 2))) (pC (.int 2)))))
  (az (aH 2 (au aX (af false (au bh (af false (ae 0) (af false (pC (.int 1)) aq))) (af false (pC (.str "abcdefghijklmnopqrstuvwxyz")) (af false (ae 1) (af false (pC (.int 6)) aq))))))
  (az (aH 3 (au aX (af false (au bh (af false (ae 0) (af false (pC (.int 2)) aq))) (af false (pC (.str "zyxwvutsrqponmlkjihgfedcba")) (af false (ae 1) (af false (pC (.int 6)) aq))))))
  (az (aH 4 (ah dE false (ah fj false (au bh (af false (ae 0) (af false (pC (.int 3)) aq))) (pC (.int 11))) (pC (.int 5))))
  (az (aH 5 (e_ [none,none] (iO (ae 2)) fL dY fM))
  (az (bn (aW (b8 (au bv (af false (ae 5) (af false (ae 2) aq)))))
  (aD (pC (.bool false)))
  aM)
  (az (aH 6 (bg "Parts" (bo ai) (af false (ae 5) aq)))
  (az (fm (dk 5 (bg "Piece" cJ (af false (pC (.str "q")) (af false (pC (.int 7)) aq)))))
  (az (aH 7 (bg "Parts" (bo ai) (af false (e_ [none,none] (iO (ae 3)) io dY ip) aq)))
  (az (aH 8 (b9 (aL (au aR (af false (ae 2) aq)) (aL (au aR (af false (ae 3) aq)) bC))))
  (az (bn (eg (dH (ah fS false (jV ["Parts"] "parts" (ae 6)) (bB dX (af false (ae 2) aq)))) (aW (b8 (au ax (af false (ae 6) (af false (ae 2) (af false (ah fi false (ae 8) (pC (.int 0))) aq)))))))
  (aD (pC (.bool false)))
  aM)
  (az (bn (aW (b8 (au ax (af false (ae 7) (af false (ae 3) (af false (ah fi false (ae 8) (pC (.int 1))) aq))))))
  (aD (pC (.bool false)))
  aM)
  (az (aH 9 (bg "Times" (bA ai) (af false (ae 6) (af false (ae 4) aq))))
  (az (aH 10 (ah gl false (bB fc (af false (ae 4) aq)) (bB iR (af false (ah fS false (ae 4) (pC (.int 1))) aq))))
  (az (bn (eg (dH (ah fS false (bx ["Times"] "number" (ae 9)) (ae 4))) (dH (ah fS false (a7 bT (bx ["Times"] "body" (ae 9))) (ah fi false (ae 8) (pC (.int 0))))))
  (aD (pC (.bool false)))
  aM)
  (az (bn (aW (b8 (au ax (af false (ae 9) (af false (au aB (af false (ae 2) (af false (ae 4) aq))) (af false (ah aC false (ah aC false (ah aC false (pC (.str "(")) (ah fi false (ae 8) (pC (.int 0)))) (pC (.str ")"))) (ae 10)) aq))))))
  (aD (pC (.bool false)))
  aM)
  (az (aH 11 (bg "Back" (fb ai) (af false (ae 6) (af false (ae 7) aq))))
  (az (aH 12 (ah aC false (ah aC false (ah aC false (ae 2) (ae 3)) (au aN (af false (ae 2) aq))) (au aN (af false (ae 3) aq))))
  (az (aH 13 (ah aC false (ah aC false (ah aC false (ah aC false (pC (.str "[")) (ah fi false (ae 8) (pC (.int 0)))) (pC (.str ","))) (ah fi false (ae 8) (pC (.int 1)))) (pC (.str "]"))))
  (az (bn (eg (dH (ah fS false (a7 bT (bx ["Back"] "one" (ae 11))) (ah fi false (ae 8) (pC (.int 0))))) (eg (dH (ah fS false (a7 bT (bx ["Back"] "other" (ae 11))) (ah fi false (ae 8) (pC (.int 1))))) (aW (b8 (au ax (af false (ae 11) (af false (ae 12) (af false (ae 13) aq))))))))
  (aD (pC (.bool false)))
  aM)
  (az (aH 14 (bg "Times" (bA ai) (af false (ae 11) (af false (ah dE false (pC (.int 0)) (ae 4)) aq))))
  (az (aH 15 (ah gl false (bB fc (af false (ah dE false (pC (.int 0)) (ae 4)) aq)) (bB iR (af false (ah fS false (ae 4) (gh gs (pC (.int 1)))) aq))))
  (az (bn (aW (b8 (au ax (af false (ae 14) (af false (au aB (af false (ae 12) (af false (ah dE false (pC (.int 0)) (ae 4)) aq))) (af false (ah aC false (ah aC false (ah aC false (pC (.str "(")) (ae 13)) (pC (.str ")"))) (ae 15)) aq))))))
  (aD (pC (.bool false)))
  aM)
  (az (aH 16 (bg "Parts" (bo ai) (af false (b9 (aL (ae 7) (aL (ae 9) (aL (ae 14) (aL (ae 6) bC))))) aq)))
  (az (aH 17 (ah aC false (ah aC false (ah aC false (ae 3) (au aB (af false (ae 2) (af false (ae 4) aq)))) (au aB (af false (ae 12) (af false (ah dE false (pC (.int 0)) (ae 4)) aq)))) (ae 2)))
  (az (aH 12 (ah aC false (ah aC false (ah aC false (ah aC false (ah fi false (ae 8) (pC (.int 1))) (pC (.str "("))) (ah fi false (ae 8) (pC (.int 0)))) (pC (.str ")"))) (ae 10)))
  (az (aH 12 (ah aC false (ah aC false (ah aC false (ah aC false (ah aC false (ae 12) (pC (.str "("))) (ae 13)) (pC (.str ")"))) (ae 15)) (ah fi false (ae 8) (pC (.int 0)))))
  (az (bn (aW (b8 (au aY (af false (ae 6) (af false (bB dX (af false (ae 2) aq)) (af false (au bh (af false (ae 0) (af false (pC (.int 4)) aq))) aq))))))
  (aD (pC (.bool false)))
  aM)
  (aD (gu (au ax (af false (ae 16) (af false (ae 17) (af false (ae 12) aq)))) (au ax (af false (bg "Parts" (bo ai) (af false (b9 bC) aq)) (af false (b9 bC) (af false (pC (.str "")) aq))))))))))))))))))))))))))))))))))
def g_:List PyData→Option Sl:=cO 1 18 lj
end Nhk62
namespace Nhk62
open PySem L2 Nh PL
def hG (i:Nat):Stmt:=PySem.Challenge.pw_nailhang_k62_terms_by_hand.main.body.getD i (.Pass ⟨0,0,0,0⟩)
structure XF (K:PySem.W.Frag) (mg:Str→Option Value):Prop where
  c_NoCord:∃C,mg "NoCord"=some (.ref C)∧XT K (.ref C) g8
  c_NoText:∃C,mg "NoText"=some (.ref C)∧XT K (.ref C) g9
  c_TooMany:∃C,mg "TooMany"=some (.ref C)∧XT K (.ref C) gw
  c_TooLong:∃C,mg "TooLong"=some (.ref C)∧XT K (.ref C) gy∧XC K mg "TooLong" C
  c_Term:∃C,mg "Term"=some (.ref C)∧XT K (.ref C) sY
  c_Piece:∃C,mg "Piece"=some (.ref C)∧XT K (.ref C) qm
  c_Parts:∃C,mg "Parts"=some (.ref C)∧XT K (.ref C) qo
  c_Times:∃C,mg "Times"=some (.ref C)∧XT K (.ref C) qp
  c_Back:∃C,mg "Back"=some (.ref C)∧XT K (.ref C) sZ
  v_ValueError:mg "ValueError"=none∧XT K (.type "ValueError") j0
  e_HangError:∃C,mg "HangError"=some (.ref C)∧∀n∈[("TooLong":Str)],∀D,PySem.W.nsIn K mainGlobals n=some (some (.ref D))→PySem.W.exmOne K (.ref D) (.ref C)=some true
section
variable {P:Program} {w:World} {K:PySem.W.Frag} {mg:Str→Option Value} {base:Heap}
abbrev fZ:Stmt:=hG 8
theorem nw:FnScope ["cord"] ["cord"] (aj fZ):=⟨rfl,rfl,rfl,by decide+kernel,rfl,by decide+kernel,by decide+kernel⟩
theorem ny (D:Def K mg "contrary" fZ ["cord"]) (B:Bn mg):Own P w K mg base 1 "contrary" ["cord"] (dh K bS):=by
  delta bS
  refine g3 (g:=fW) D nw rfl rfl (by decide) fun f cdv A outer s H E hr=>?_
  delta fW
  exact (av (aE (h9 (N:=["nail","turns"]) (js:=[none,none]) dJ (by rfl) (rR (by rfl) (by exact B.reversed) (ad 0)) (fun _ _ _ _=>(by delta dP;exact (gZ (by rfl) (bQ (bJ 0 (show (["nail","turns"]:List Str).Nodup by decide+kernel)) (bQ (bJ 1 (show (["nail","turns"]:List Str).Nodup by decide+kernel)) fU))))) (fun _ _ _ _=>(by delta cV;exact (g7 (DL.cons (ad 0) rfl (DL.cons (jO (ad 1)) rfl DL.nil))))))))
abbrev dS:Stmt:=hG 12
theorem j1:FnScope ["number"] ["number"] (aj dS):=⟨rfl,rfl,rfl,by decide+kernel,rfl,by decide+kernel,by decide+kernel⟩
theorem j2 (D:Def K mg "number_text" dS ["number"]) (B:Bn mg):Own P w K mg base 1 "number_text" ["number"] (dh K aS):=by
  delta aS
  refine g3 (g:=cW) D j1 rfl rfl (by decide) fun f cdv A outer s H E hr=>?_
  delta cW
  exact (av (aE (rL (vz hr.units (ad 0) ap) bE (jv (by rfl) (by exact B.str) (ag (ad 0) ar)))))
abbrev f8:Stmt:=hG 9
theorem nz:FnScope ["cord","times"] ["cord","times"] (aj f8):=⟨rfl,rfl,rfl,by decide+kernel,rfl,by decide+kernel,by decide+kernel⟩
theorem nC (D:Def K mg "repeated" f8 ["cord","times"]) (B:Bn mg) (D_contrary:Own P w K mg base 1 "contrary" ["cord"] (dh K bS)):Own P w K mg base 2 "repeated" ["cord","times"] (dh K b6):=by
  delta b6
  refine g3 (g:=fe) D nz rfl rfl (by decide) fun f cdv A outer s H E hr=>?_
  delta fe
  exact (av (aE (cE (rL (kY .lt (ad 1) ap) (aK D_contrary (hr.mono (by decide)) (by rfl) (ag (ad 0) ar)) (ad 0)) (wC (by rfl) (by exact B.abs) (ag (ad 1) ar)))))
abbrev cL:Stmt:=hG 10
theorem iq:FnScope ["one","other"] ["one","other"] (aj cL):=⟨rfl,rfl,rfl,by decide+kernel,rfl,by decide+kernel,by decide+kernel⟩
theorem ir (D:Def K mg "there_and_back" cL ["one","other"]) (B:Bn mg) (D_contrary:Own P w K mg base 1 "contrary" ["cord"] (dh K bS)):Own P w K mg base 2 "there_and_back" ["one","other"] (dh K aQ):=by
  delta aQ
  refine g3 (g:=cK) D iq rfl rfl (by decide) fun f cdv A outer s H E hr=>?_
  delta cK
  exact (av (aE (aA (aA (aA (ad 0) (ad 1)) (aK D_contrary (hr.mono (by decide)) (by rfl) (ag (ad 0) ar))) (aK D_contrary (hr.mono (by decide)) (by rfl) (ag (ad 1) ar)))))
abbrev a8:Stmt:=cz (hG 13) 1
theorem j3:FnScope ["self"] ["self"] (aj a8):=⟨rfl,rfl,rfl,by decide+kernel,rfl,by decide+kernel,by decide+kernel⟩
theorem dA {f0:Addr} {fd:FuncData} (D:Fun K "pieces" "Term.pieces" a8 f0 fd) (B:Bn mg) (HF_size:∀cn∈(["Piece","Parts","Times","Back"]:List Str),∀C,PySem.W.nsIn K mainGlobals cn=some (some (.ref C))→Cls K C∧NoAttr K C "size"):FnOk P w K mg base gT 1 f0 fd ["self"] (dh K (bu)):=by
  delta bu
  refine tQ (g:=dQ) D j3 rfl rfl (by decide) fun cdv A outer s H E hr=>?_
  delta dQ
  exact (av (aE (bF HF_size (ad 0))))
abbrev eP:Stmt:=cz (hG 14) 1
theorem kg:FnScope ["self"] ["self"] (aj eP):=⟨rfl,rfl,rfl,by decide+kernel,rfl,by decide+kernel,by decide+kernel⟩
theorem kh {f0:Addr} {fd:FuncData} (D:Fun K "made" "Piece.made" eP f0 fd) (B:Bn mg) (HF_nail:∀cn∈(["Piece"]:List Str),∀C,PySem.W.nsIn K mainGlobals cn=some (some (.ref C))→Cls K C∧NoAttr K C "nail") (HF_turns:∀cn∈(["Piece"]:List Str),∀C,PySem.W.nsIn K mainGlobals cn=some (some (.ref C))→Cls K C∧NoAttr K C "turns"):FnOk P w K mg base gT 1 f0 fd ["self"] (dh K (cX)):=by
  delta cX
  refine tQ (g:=eJ) D kg rfl rfl (by decide) fun cdv A outer s H E hr=>?_
  delta eJ
  exact (av (aE (df (DL.cons (g7 (DL.cons (bF HF_nail (ad 0)) rfl (DL.cons (bF HF_turns (ad 0)) rfl DL.nil))) rfl DL.nil))))
abbrev eQ:Stmt:=cz (hG 14) 2
theorem ki:FnScope ["self"] ["self"] (aj eQ):=⟨rfl,rfl,rfl,by decide+kernel,rfl,by decide+kernel,by decide+kernel⟩
theorem kj {f0:Addr} {fd:FuncData} (D:Fun K "text" "Piece.text" eQ f0 fd) (B:Bn mg) (HF_nail:∀cn∈(["Piece"]:List Str),∀C,PySem.W.nsIn K mainGlobals cn=some (some (.ref C))→Cls K C∧NoAttr K C "nail") (HF_turns:∀cn∈(["Piece"]:List Str),∀C,PySem.W.nsIn K mainGlobals cn=some (some (.ref C))→Cls K C∧NoAttr K C "turns") (D_number_text:Own P w K mg base 1 "number_text" ["number"] (dh K aS)):FnOk P w K mg base gT 2 f0 fd ["self"] (dh K (cY)):=by
  delta cY
  refine tQ (g:=eK) D ki rfl rfl (by decide) fun cdv A outer s H E hr=>?_
  delta eK
  exact (av (aE (aA (bF HF_nail (ad 0)) (aK D_number_text (hr.mono (by decide)) (by rfl) (ag (bF HF_turns (ad 0)) ar)))))
abbrev bw:Stmt:=cz (hG 13) 2
theorem iu:FnScope ["self"] ["self"] (aj bw):=⟨rfl,rfl,rfl,by decide+kernel,rfl,by decide+kernel,by decide+kernel⟩
theorem eR {f0:Addr} {fd:FuncData} (D:Fun K "cord" "Term.cord" bw f0 fd) (B:Bn mg) {k:Nat} {self:List PyData→Option Sl} (DS:DispM P w K mg base k "made" self) (HF_size:∀cn∈(["Piece","Parts","Times","Back"]:List Str),∀C,PySem.W.nsIn K mainGlobals cn=some (some (.ref C))→Cls K C∧NoAttr K C "size") {t_LONGEST:Tok} (G_LONGEST:mg "LONGEST"=some (.int 4000 t_LONGEST)):FnOk P w K mg base gT (k+1) f0 fd ["self"] (dh K (bp self)):=by
  delta bp
  refine tQ (g:=d0 self) D iu rfl rfl (by decide) fun cdv A outer s H E hr=>?_
  delta d0
  exact (ao (cN (kY .gt (bF HF_size (ad 0)) (pc (by rfl) (by exact G_LONGEST)))
  (av sg)
  be)
  (av (aE (rL (kY .gt (bF HF_size (ad 0)) ap) (a_ DS hr (ad 0)) (df DL.nil)))))
theorem dU {f0:Addr} {fd:FuncData} (D:Fun K "cord" "Term.cord" bw f0 fd) (B:Bn mg) (XX:XF K mg) (HF_size:∀cn∈(["Piece","Parts","Times","Back"]:List Str),∀C,PySem.W.nsIn K mainGlobals cn=some (some (.ref C))→Cls K C∧NoAttr K C "size") {t_LONGEST:Tok} (G_LONGEST:mg "LONGEST"=some (.int 4000 t_LONGEST)):FnOk P w K mg base (sI P w) 1 f0 fd ["self"] (yW K du):=by
  obtain ⟨C_TooLong,m_TooLong,t_TooLong,z_TooLong⟩:=XX.c_TooLong
  delta du
  refine zw (mk:=true) (al:=true) (k:=0) (r:=ft) D iu rfl rfl (by decide) fun cdv A outer s H E hr=>?_
  delta ft
  exact (lZ (yp (kY .gt (bF HF_size (ad 0)) (pc (by rfl) (by exact G_LONGEST))) (lZ (sM (by rfl) (by rfl) z_TooLong))))
abbrev eS:Stmt:=cz (hG 15) 1
theorem sc_Parts_made:FnScope ["self","told","part"] ["self"] (aj eS):=⟨rfl,rfl,rfl,by decide+kernel,rfl,by decide+kernel,by decide+kernel⟩
theorem kl {f0:Addr} {fd:FuncData} (D:Fun K "made" "Parts.made" eS f0 fd) (B:Bn mg) {k:Nat} {self:List PyData→Option Sl} (DS:DispM P w K mg base k "cord" self) (HF_kept:∀cn∈(["Parts"]:List Str),∀C,PySem.W.nsIn K mainGlobals cn=some (some (.ref C))→Cls K C∧NoAttr K C "kept"):FnOk P w K mg base gT (k+1) f0 fd ["self"] (dh K (cZ self)):=by
  delta cZ
  refine tQ (g:=eL self) D sc_Parts_made rfl rfl (by decide) fun cdv A outer s H E hr=>?_
  delta eL
  exact (ao (aV 1 sc_Parts_made.nd (df DL.nil))
  (ao (iN PassesOwn.never (by rfl) (jT (bF HF_kept (ad 0))) (by delta bM;exact (bJ 2 sc_Parts_made.nd))
  (by delta bN;exact (av (gM (p4 1 (a_ DS hr (ad 2)))))))
  (av (aE (ad 1)))))
abbrev eT:Stmt:=cz (hG 15) 2
theorem km:FnScope ["self"] ["self"] (aj eT):=⟨rfl,rfl,rfl,by decide+kernel,rfl,by decide+kernel,by decide+kernel⟩
theorem ko {f0:Addr} {fd:FuncData} (D:Fun K "text" "Parts.text" eT f0 fd) (B:Bn mg) {k:Nat} {self:List PyData→Option Sl} (DS:DispM P w K mg base k "text" self) (HF_kept:∀cn∈(["Parts"]:List Str),∀C,PySem.W.nsIn K mainGlobals cn=some (some (.ref C))→Cls K C∧NoAttr K C "kept"):FnOk P w K mg base gT (k+1) f0 fd ["self"] (dh K (c0 self)):=by
  delta c0
  refine tQ (g:=eM self) D km rfl rfl (by decide) fun cdv A outer s H E hr=>?_
  delta eM
  exact (av (aE (uF (h9 (N:=["part"]) (js:=[none]) dJ (by rfl) (jT (bF HF_kept (ad 0))) (fun _ _ _ _=>(by delta db;exact (bJ 0 (show (["part"]:List Str).Nodup by decide+kernel)))) (fun _ _ _ _=>(by delta b_;exact (a_ DS hr (ad 0))))))))
abbrev eU:Stmt:=cz (hG 16) 1
theorem kq:FnScope ["self"] ["self"] (aj eU):=⟨rfl,rfl,rfl,by decide+kernel,rfl,by decide+kernel,by decide+kernel⟩
theorem kr {f0:Addr} {fd:FuncData} (D:Fun K "made" "Times.made" eU f0 fd) (B:Bn mg) {k:Nat} {self:List PyData→Option Sl} (DS:DispM P w K mg base k "cord" self) (hk:2≤k) (HF_number:∀cn∈(["Times"]:List Str),∀C,PySem.W.nsIn K mainGlobals cn=some (some (.ref C))→Cls K C∧NoAttr K C "number") (HF_body:∀cn∈(["Times"]:List Str),∀C,PySem.W.nsIn K mainGlobals cn=some (some (.ref C))→Cls K C∧NoAttr K C "body") (D_repeated:Own P w K mg base 2 "repeated" ["cord","times"] (dh K b6)):FnOk P w K mg base gT (k+1) f0 fd ["self"] (dh K (c8 self)):=by
  delta c8
  refine tQ (g:=eN self) D kq rfl rfl (by decide) fun cdv A outer s H E hr=>?_
  delta eN
  exact (av (aE (aK D_repeated (hr.mono (by omega)) (by rfl) (ag (a_ DS hr (bF HF_body (ad 0))) (ag (bF HF_number (ad 0)) ar)))))
abbrev eV:Stmt:=cz (hG 16) 2
theorem ku:FnScope ["self"] ["self"] (aj eV):=⟨rfl,rfl,rfl,by decide+kernel,rfl,by decide+kernel,by decide+kernel⟩
theorem kx {f0:Addr} {fd:FuncData} (D:Fun K "text" "Times.text" eV f0 fd) (B:Bn mg) {k:Nat} {self:List PyData→Option Sl} (DS:DispM P w K mg base k "text" self) (hk:1≤k) (HF_body:∀cn∈(["Times"]:List Str),∀C,PySem.W.nsIn K mainGlobals cn=some (some (.ref C))→Cls K C∧NoAttr K C "body") (HF_number:∀cn∈(["Times"]:List Str),∀C,PySem.W.nsIn K mainGlobals cn=some (some (.ref C))→Cls K C∧NoAttr K C "number") (D_number_text:Own P w K mg base 1 "number_text" ["number"] (dh K aS)):FnOk P w K mg base gT (k+1) f0 fd ["self"] (dh K (c9 self)):=by
  delta c9
  refine tQ (g:=eO self) D ku rfl rfl (by decide) fun cdv A outer s H E hr=>?_
  delta eO
  exact (av (aE (aA (aA (aA bE (a_ DS hr (bF HF_body (ad 0)))) bE) (aK D_number_text (hr.mono (by omega)) (by rfl) (ag (bF HF_number (ad 0)) ar)))))
abbrev fz:Stmt:=cz (hG 17) 1
theorem md:FnScope ["self"] ["self"] (aj fz):=⟨rfl,rfl,rfl,by decide+kernel,rfl,by decide+kernel,by decide+kernel⟩
theorem me {f0:Addr} {fd:FuncData} (D:Fun K "made" "Back.made" fz f0 fd) (B:Bn mg) {k:Nat} {self:List PyData→Option Sl} (DS:DispM P w K mg base k "cord" self) (hk:2≤k) (HF_other:∀cn∈(["Back"]:List Str),∀C,PySem.W.nsIn K mainGlobals cn=some (some (.ref C))→Cls K C∧NoAttr K C "other") (HF_one:∀cn∈(["Back"]:List Str),∀C,PySem.W.nsIn K mainGlobals cn=some (some (.ref C))→Cls K C∧NoAttr K C "one") (D_there_and_back:Own P w K mg base 2 "there_and_back" ["one","other"] (dh K aQ)):FnOk P w K mg base gT (k+1) f0 fd ["self"] (dh K (dv self)):=by
  delta dv
  refine tQ (g:=fu self) D md rfl rfl (by decide) fun cdv A outer s H E hr=>?_
  delta fu
  exact (av (aE (aK D_there_and_back (hr.mono (by omega)) (by rfl) (ag (a_ DS hr (bF HF_one (ad 0))) (ag (a_ DS hr (bF HF_other (ad 0))) ar)))))
abbrev fA:Stmt:=cz (hG 17) 2
theorem mf:FnScope ["self"] ["self"] (aj fA):=⟨rfl,rfl,rfl,by decide+kernel,rfl,by decide+kernel,by decide+kernel⟩
theorem mh {f0:Addr} {fd:FuncData} (D:Fun K "text" "Back.text" fA f0 fd) (B:Bn mg) {k:Nat} {self:List PyData→Option Sl} (DS:DispM P w K mg base k "text" self) (HF_one:∀cn∈(["Back"]:List Str),∀C,PySem.W.nsIn K mainGlobals cn=some (some (.ref C))→Cls K C∧NoAttr K C "one") (HF_other:∀cn∈(["Back"]:List Str),∀C,PySem.W.nsIn K mainGlobals cn=some (some (.ref C))→Cls K C∧NoAttr K C "other"):FnOk P w K mg base gT (k+1) f0 fd ["self"] (dh K (dw self)):=by
  delta dw
  refine tQ (g:=fv self) D mf rfl rfl (by decide) fun cdv A outer s H E hr=>?_
  delta fv
  exact (av (aE (aA (aA (aA (aA bE (a_ DS hr (bF HF_one (ad 0)))) bE) (a_ DS hr (bF HF_other (ad 0)))) bE)))
abbrev eW:Stmt:=cz (hG 14) 0
theorem ky:FnScope ["self","nail","turns"] ["self","nail","turns"] (aj eW):=⟨rfl,rfl,rfl,by decide+kernel,rfl,by decide+kernel,by decide+kernel⟩
theorem kA {f0 C:Addr} {fd:FuncData} (D:Fun K "__init__" "Piece.__init__" eW f0 fd) (B:Bn mg) (cl:Cls K C) (n1:NoAttr K C "nail") (n2:NoAttr K C "turns") (n3:NoAttr K C "size"):FnOk P w K mg base gT 1 f0 fd ["self","nail","turns"] (kf K C cJ):=by
  refine D.ok ky (fun vs H Q E h=>(k_ (D:={nx:=fun _ _=>True,rt:=fun _ _=>True}) (N:=["","",""]) cl n1 n2 n3 h fun _ _ _=>trivial).1) (fun cdv A outer s H vs Q E hr h=>?_)
  refine ⟨_,(cD (ef (pv 0) (pv 1) rfl) (cD (ef (pv 0) (pv 2) rfl) (gH (ef (pv 0) iD rfl)))),?_⟩
  exact (k_ cl n1 n2 n3 h fun _ _ z=>z).2
def mj (K:PySem.W.Frag):Prop:=∃C,CF K "Piece" C∧NoAttr K C "nail"∧NoAttr K C "turns"∧NoAttr K C "size"∧HM K C "pieces" "Term.pieces" a8∧HM K C "cord" "Term.cord" bw∧HM K C "made" "Piece.made" eP∧HM K C "text" "Piece.text" eQ∧HM K C "__init__" "Piece.__init__" eW
abbrev eX:Stmt:=cz (hG 15) 0
theorem kB:FnScope ["self","parts"] ["self","parts"] (aj eX):=⟨rfl,rfl,rfl,by decide+kernel,rfl,by decide+kernel,by decide+kernel⟩
theorem kC {f0 C:Addr} {fd:FuncData} {c:List PyData→Option Sl} (DP:DispM P w K mg base 1 "pieces" c) (D:Fun K "__init__" "Parts.__init__" eX f0 fd) (B:Bn mg) (cl:Cls K C) (n1:NoAttr K C "parts") (n2:NoAttr K C "kept") (n3:NoAttr K C "size"):FnOk P w K mg base gT 2 f0 fd ["self","parts"] (kf K C (bo c)):=by
  refine D.ok kB (fun vs H Q E h=>(lf (D:={nx:=fun _ _=>True,rt:=fun _ _=>True}) (N:=["",""]) cl n1 n2 n3 h fun _ _ _=>trivial).1) (fun cdv A outer s H vs Q E hr h=>?_)
  refine ⟨_,cD (ef (pv 0) (uK (gJ lD (by rfl) B.list PyProof.Rows.boot_list (bi (pv 1) cQ))) rfl) (cD (ef (pv 0) (gJ kd (by rfl) B.tuple PyProof.Rows.boot_tuple (bi (pv 1) cQ)) rfl)
    (gH (ef (pv 0) (eZ (p7 rfl) (by rfl) B.sum PyProof.Rows.boot_sum (bi (oV (N:=["part"]) (js:=[none]) dJ rfl (oO (pv 1)) (fun _ _ _ _=>lv (i:=0) (show (["part"]:List Str).Nodup by decide+kernel) rfl (Or.inl rfl)) (fun _ _ _ _=>lG) (te:=g5 K c (de 0)) (fun C0 s0 H0 fp=>?el)) cQ)) rfl))),?_⟩
  case el=>exact ij DP hr (pv 0)
  exact (lf cl n1 n2 n3 h fun _ _ z=>z).2
def mn (K:PySem.W.Frag):Prop:=∃C,CF K "Parts" C∧NoAttr K C "parts"∧NoAttr K C "kept"∧NoAttr K C "size"∧HM K C "pieces" "Term.pieces" a8∧HM K C "cord" "Term.cord" bw∧HM K C "made" "Parts.made" eS∧HM K C "text" "Parts.text" eT∧HM K C "__init__" "Parts.__init__" eX
abbrev eY:Stmt:=cz (hG 16) 0
theorem kD:FnScope ["self","body","number"] ["self","body","number"] (aj eY):=⟨rfl,rfl,rfl,by decide+kernel,rfl,by decide+kernel,by decide+kernel⟩
theorem kE {f0 C:Addr} {fd:FuncData} {c:List PyData→Option Sl} (DP:DispM P w K mg base 1 "pieces" c) (D:Fun K "__init__" "Times.__init__" eY f0 fd) (B:Bn mg) (cl:Cls K C) (n1:NoAttr K C "body") (n2:NoAttr K C "number") (n3:NoAttr K C "size"):FnOk P w K mg base gT 2 f0 fd ["self","body","number"] (kf K C (bA c)):=by
  refine D.ok kD (fun vs H Q E h=>(lh (D:={nx:=fun _ _=>True,rt:=fun _ _=>True}) (N:=["","",""]) cl n1 n2 n3 h fun _ _ _=>trivial).1) (fun cdv A outer s H vs Q E hr h=>?_)
  refine ⟨_,(cD (ef (pv 0) (pv 1) rfl) (cD (ef (pv 0) (pv 2) rfl) (gH (ef (pv 0) (kG lN (ij DP hr (pv 1)) (eZ mH (by rfl) B.abs PyProof.Rows.boot_abs (bi (pv 2) cQ))) rfl)))),?_⟩
  exact (lh cl n1 n2 n3 h fun _ _ z=>z).2
def mq (K:PySem.W.Frag):Prop:=∃C,CF K "Times" C∧NoAttr K C "body"∧NoAttr K C "number"∧NoAttr K C "size"∧HM K C "pieces" "Term.pieces" a8∧HM K C "cord" "Term.cord" bw∧HM K C "made" "Times.made" eU∧HM K C "text" "Times.text" eV∧HM K C "__init__" "Times.__init__" eY
abbrev fB:Stmt:=cz (hG 17) 0
theorem mr:FnScope ["self","one","other"] ["self","one","other"] (aj fB):=⟨rfl,rfl,rfl,by decide+kernel,rfl,by decide+kernel,by decide+kernel⟩
theorem ms {f0 C:Addr} {fd:FuncData} {c:List PyData→Option Sl} (DP:DispM P w K mg base 1 "pieces" c) (D:Fun K "__init__" "Back.__init__" fB f0 fd) (B:Bn mg) (cl:Cls K C) (n1:NoAttr K C "one") (n2:NoAttr K C "other") (n3:NoAttr K C "size"):FnOk P w K mg base gT 2 f0 fd ["self","one","other"] (kf K C (fb c)):=by
  refine D.ok mr (fun vs H Q E h=>(ni (D:={nx:=fun _ _=>True,rt:=fun _ _=>True}) (N:=["","",""]) cl n1 n2 n3 h fun _ _ _=>trivial).1) (fun cdv A outer s H vs Q E hr h=>?_)
  refine ⟨_,(cD (ef (pv 0) (pv 1) rfl) (cD (ef (pv 0) (pv 2) rfl) (gH (ef (pv 0) (kG lN iD (kG qL (ij DP hr (pv 1)) (ij DP hr (pv 2)))) rfl)))),?_⟩
  exact (ni cl n1 n2 n3 h fun _ _ z=>z).2
def oA (K:PySem.W.Frag):Prop:=∃C,CF K "Back" C∧NoAttr K C "one"∧NoAttr K C "other"∧NoAttr K C "size"∧HM K C "pieces" "Term.pieces" a8∧HM K C "cord" "Term.cord" bw∧HM K C "made" "Back.made" fz∧HM K C "text" "Back.text" fA∧HM K C "__init__" "Back.__init__" fB
theorem u5 {h:Heap} (X:K.In h) (G:h.Ns mainGlobals mg) (B:Bn mg) (XX:XF K mg) (hPiece:mj K) (hParts:mn K) (hTimes:mq K) (hBack:oA K) {t_LONGEST:Tok} (G_LONGEST:mg "LONGEST"=some (.int 4000 t_LONGEST)) (D_number_text:Own P w K mg base 1 "number_text" ["number"] (dh K aS)) (D_repeated:Own P w K mg base 2 "repeated" ["cord","times"] (dh K b6)) (D_there_and_back:Own P w K mg base 2 "there_and_back" ["one","other"] (dh K aQ)):
    MkOk P w K mg base 1 "Piece" ["self","nail","turns"] cJ∧MkOk P w K mg base 2 "Parts" ["self","parts"] (bo ai)∧MkOk P w K mg base 2 "Times" ["self","body","number"] (bA ai)∧MkOk P w K mg base 2 "Back" ["self","one","other"] (fb ai)∧DispM P w K mg base 1 "pieces" ai∧DispM P w K mg base 35 "text" bT∧DispM P w K mg base 70 "cord" bU∧li P w K mg base 1 "cord" dL∧(∀cn∈(["Piece"]:List Str),∀C,PySem.W.nsIn K mainGlobals cn=some (some (.ref C))→Cls K C∧NoAttr K C "nail")∧(∀cn∈(["Piece"]:List Str),∀C,PySem.W.nsIn K mainGlobals cn=some (some (.ref C))→Cls K C∧NoAttr K C "turns")∧(∀cn∈(["Times"]:List Str),∀C,PySem.W.nsIn K mainGlobals cn=some (some (.ref C))→Cls K C∧NoAttr K C "number")∧(∀cn∈(["Times"]:List Str),∀C,PySem.W.nsIn K mainGlobals cn=some (some (.ref C))→Cls K C∧NoAttr K C "body")∧(∀cn∈(["Back"]:List Str),∀C,PySem.W.nsIn K mainGlobals cn=some (some (.ref C))→Cls K C∧NoAttr K C "one")∧(∀cn∈(["Back"]:List Str),∀C,PySem.W.nsIn K mainGlobals cn=some (some (.ref C))→Cls K C∧NoAttr K C "other")∧(∀cn∈(["Parts"]:List Str),∀C,PySem.W.nsIn K mainGlobals cn=some (some (.ref C))→Cls K C∧NoAttr K C "parts"):=by
  obtain ⟨CPiece,fPiece,n1Piece,n2Piece,n3Piece,mpPiece,mcPiece,mmPiece,mtPiece,miPiece⟩:=hPiece
  have kPiece:=fPiece.ok X G
  obtain ⟨CParts,fParts,n1Parts,n2Parts,n3Parts,mpParts,mcParts,mmParts,mtParts,miParts⟩:=hParts
  have kParts:=fParts.ok X G
  obtain ⟨CTimes,fTimes,n1Times,n2Times,n3Times,mpTimes,mcTimes,mmTimes,mtTimes,miTimes⟩:=hTimes
  have kTimes:=fTimes.ok X G
  obtain ⟨CBack,fBack,n1Back,n2Back,n3Back,mpBack,mcBack,mmBack,mtBack,miBack⟩:=hBack
  have kBack:=fBack.ok X G
  have HF_Term_size:=Frees.ok (K:=K) (mg:=mg) (f:="size") (.cons kPiece n3Piece (.cons kParts n3Parts (.cons kTimes n3Times (.cons kBack n3Back Frees.nil))))
  have HF_Piece_nail:=Frees.ok (K:=K) (mg:=mg) (f:="nail") (.cons kPiece n1Piece .nil)
  have HF_Piece_turns:=Frees.ok (K:=K) (mg:=mg) (f:="turns") (.cons kPiece n2Piece .nil)
  have HF_Piece_size:=Frees.ok (K:=K) (mg:=mg) (f:="size") (.cons kPiece n3Piece .nil)
  have HF_Parts_parts:=Frees.ok (K:=K) (mg:=mg) (f:="parts") (.cons kParts n1Parts .nil)
  have HF_Parts_kept:=Frees.ok (K:=K) (mg:=mg) (f:="kept") (.cons kParts n2Parts .nil)
  have HF_Parts_size:=Frees.ok (K:=K) (mg:=mg) (f:="size") (.cons kParts n3Parts .nil)
  have HF_Times_body:=Frees.ok (K:=K) (mg:=mg) (f:="body") (.cons kTimes n1Times .nil)
  have HF_Times_number:=Frees.ok (K:=K) (mg:=mg) (f:="number") (.cons kTimes n2Times .nil)
  have HF_Times_size:=Frees.ok (K:=K) (mg:=mg) (f:="size") (.cons kTimes n3Times .nil)
  have HF_Back_one:=Frees.ok (K:=K) (mg:=mg) (f:="one") (.cons kBack n1Back .nil)
  have HF_Back_other:=Frees.ok (K:=K) (mg:=mg) (f:="other") (.cons kBack n2Back .nil)
  have HF_Back_size:=Frees.ok (K:=K) (mg:=mg) (f:="size") (.cons kBack n3Back .nil)
  have DP:DispM P w K mg base 1 "pieces" ai:=Disp.ok (.cons kPiece (mpPiece.own (fun f fd D=>dA D B (HF_Term_size)) (fun _ _ _ _ _ _ us hl=>match us,hl with | [_],_=>rfl)) (.cons kParts (mpParts.own (fun f fd D=>dA D B (HF_Term_size)) (fun _ _ _ _ _ _ us hl=>match us,hl with | [_],_=>rfl)) (.cons kTimes (mpTimes.own (fun f fd D=>dA D B (HF_Term_size)) (fun _ _ _ _ _ _ us hl=>match us,hl with | [_],_=>rfl)) (.cons kBack (mpBack.own (fun f fd D=>dA D B (HF_Term_size)) (fun _ _ _ _ _ _ us hl=>match us,hl with | [_],_=>rfl)) .nil)))) (by decide)
  have DT:∀n,DispM P w K mg base (2+n) "text" (cT n):=fun n=>by
    induction n with
    | zero=>exact vD
    | succ n ih=>exact Disp.ok (.cons kPiece ((mtPiece.own (fun f fd D=>kj D B (HF_Piece_nail) (HF_Piece_turns) D_number_text) (fun _ _ _ _ _ _ us hl=>match us,hl with | [_],_=>rfl)).mono (by omega)) (.cons kParts (mtParts.own (fun f fd D=>ko D B ih (HF_Parts_kept)) (fun _ _ _ _ _ _ us hl=>match us,hl with | [_],_=>rfl)) (.cons kTimes (mtTimes.own (fun f fd D=>kx D B ih (show 1≤2+n by omega) (HF_Times_body) (HF_Times_number) D_number_text) (fun _ _ _ _ _ _ us hl=>match us,hl with | [_],_=>rfl)) (.cons kBack (mtBack.own (fun f fd D=>mh D B ih (HF_Back_one) (HF_Back_other)) (fun _ _ _ _ _ _ us hl=>match us,hl with | [_],_=>rfl)) .nil)))) (by decide)
  have co:∀{k:Nat} {c:List PyData→Option Sl},DispM P w K mg base k "made" c→DispM P w K mg base (k+1) "cord" (oy c):=fun d=>Disp.ok (.cons kPiece (mcPiece.own (fun f fd D=>eR D B d (HF_Term_size) G_LONGEST) (fun _ _ _ _ _ _ us hl=>match us,hl with | [_],_=>rfl)) (.cons kParts (mcParts.own (fun f fd D=>eR D B d (HF_Term_size) G_LONGEST) (fun _ _ _ _ _ _ us hl=>match us,hl with | [_],_=>rfl)) (.cons kTimes (mcTimes.own (fun f fd D=>eR D B d (HF_Term_size) G_LONGEST) (fun _ _ _ _ _ _ us hl=>match us,hl with | [_],_=>rfl)) (.cons kBack (mcBack.own (fun f fd D=>eR D B d (HF_Term_size) G_LONGEST) (fun _ _ _ _ _ _ us hl=>match us,hl with | [_],_=>rfl)) .nil)))) (by decide)
  have DM:∀n,DispM P w K mg base (3+2*n) "made" (cM n):=fun n=>by
    induction n with
    | zero=>exact vD
    | succ n ih=>exact Disp.ok (.cons kPiece ((mmPiece.own (fun f fd D=>kh D B (HF_Piece_nail) (HF_Piece_turns)) (fun _ _ _ _ _ _ us hl=>match us,hl with | [_],_=>rfl)).mono (by omega)) (.cons kParts ((mmParts.own (fun f fd D=>kl D B (co ih) (HF_Parts_kept)) (fun _ _ _ _ _ _ us hl=>match us,hl with | [_],_=>rfl)).mono (by omega)) (.cons kTimes ((mmTimes.own (fun f fd D=>kr D B (co ih) (show 2≤3+2*n+1 by omega) (HF_Times_number) (HF_Times_body) D_repeated) (fun _ _ _ _ _ _ us hl=>match us,hl with | [_],_=>rfl)).mono (by omega)) (.cons kBack ((mmBack.own (fun f fd D=>me D B (co ih) (show 2≤3+2*n+1 by omega) (HF_Back_other) (HF_Back_one) D_there_and_back) (fun _ _ _ _ _ _ us hl=>match us,hl with | [_],_=>rfl)).mono (by omega)) .nil)))) (by decide)
  have DR:li P w K mg base 1 "cord" dL:=sT (by decide) fun cn hc=>by
    simp only [List.mem_cons,List.not_mem_nil,or_false] at hc
    rcases hc with rfl | rfl | rfl | rfl
    · exact ⟨_,kPiece,mcPiece.ownR (fun f fd D=>dU D B XX (HF_Term_size) G_LONGEST) (fun _ _ _ _ _ _ us hl=>match us,hl with | [_],_=>rfl)⟩
    · exact ⟨_,kParts,mcParts.ownR (fun f fd D=>dU D B XX (HF_Term_size) G_LONGEST) (fun _ _ _ _ _ _ us hl=>match us,hl with | [_],_=>rfl)⟩
    · exact ⟨_,kTimes,mcTimes.ownR (fun f fd D=>dU D B XX (HF_Term_size) G_LONGEST) (fun _ _ _ _ _ _ us hl=>match us,hl with | [_],_=>rfl)⟩
    · exact ⟨_,kBack,mcBack.ownR (fun f fd D=>dU D B XX (HF_Term_size) G_LONGEST) (fun _ _ _ _ _ _ us hl=>match us,hl with | [_],_=>rfl)⟩
  exact ⟨miPiece.mkOk fPiece kPiece (fun f fd D=>kA D B kPiece.cl n1Piece n2Piece n3Piece) (fun _ _ _ _ _ _ us hl=>match us,hl with | [_,_,_],_=>rfl),miParts.mkOk fParts kParts (fun f fd D=>kC DP D B kParts.cl n1Parts n2Parts n3Parts) (fun _ _ _ _ _ _ us hl=>match us,hl with | [_,_],_=>rfl),miTimes.mkOk fTimes kTimes (fun f fd D=>kE DP D B kTimes.cl n1Times n2Times n3Times) (fun _ _ _ _ _ _ us hl=>match us,hl with | [_,_,_],_=>rfl),miBack.mkOk fBack kBack (fun f fd D=>ms DP D B kBack.cl n1Back n2Back n3Back) (fun _ _ _ _ _ _ us hl=>match us,hl with | [_,_,_],_=>rfl),DP,DT 33,co (DM 33),DR,HF_Piece_nail,HF_Piece_turns,HF_Times_number,HF_Times_body,HF_Back_one,HF_Back_other,HF_Parts_parts⟩
abbrev iw:Stmt:=hG 19
theorem qr:FnScope ["_law_script","_law_k"] ["_law_script","_law_k"] (aj iw):=⟨rfl,rfl,rfl,by decide+kernel,rfl,by decide+kernel,by decide+kernel⟩
theorem qu (D:Def K mg "_law_at" iw ["_law_script","_law_k"]) (B:Bn mg):Own P w K mg base 1 "_law_at" ["_law_script","_law_k"] (dh K bh):=by
  delta bh
  refine g3 (g:=il) D qr rfl rfl (by decide) fun f cdv A outer s H E hr=>?_
  delta il
  exact (ao (cN (kY .lt (ad 1) (e9 (by rfl) (by exact B.len) (ag (ad 0) ar)))
  (av (aE (dI (ad 0) (ad 1))))
  be)
  (av (aE ap)))
abbrev gO:Stmt:=hG 20
theorem sc_law_mix:FnScope ["_law_cell","_law_k","_law_value"] ["_law_cell","_law_k"] (aj gO):=⟨rfl,rfl,rfl,by decide+kernel,rfl,by decide+kernel,by decide+kernel⟩
theorem oB (D:Def K mg "_law_mix" gO ["_law_cell","_law_k"]) (B:Bn mg):Own P w K mg base 1 "_law_mix" ["_law_cell","_law_k"] (dh K bI):=by
  delta bI
  refine g3 (g:=gN) D sc_law_mix rfl rfl (by decide) fun f cdv A outer s H E hr=>?_
  delta gN
  exact (ao (aV 2 sc_law_mix.nd (aA (aA (fR (ad 0) ap) (cE ap (ad 1))) ap))
  (ao (aV 2 sc_law_mix.nd (fR (cE (ad 2) (aA ap (cE (cE ap (ad 1)) (ad 1)))) ap))
  (av (aE (fk (fR (cE (aA (fk (ad 2) ap) (cE (ad 1) (ad 1))) ap) ap) ap)))))
abbrev fD:Stmt:=hG 21
theorem sc_law_digit:FnScope ["_law_rest","_law_m","_law_digit_here"] ["_law_rest","_law_m"] (aj fD):=⟨rfl,rfl,rfl,by decide+kernel,rfl,by decide+kernel,by decide+kernel⟩
theorem mv (D:Def K mg "_law_digit" fD ["_law_rest","_law_m"]) (B:Bn mg):Own P w K mg base 1 "_law_digit" ["_law_rest","_law_m"] (wK K aT):=by
  refine D.own sc_law_digit (fun vs H Q E h=>?_) (fun f cdv A outer s H vs Q E hr h=>?_)
  · obtain ⟨l,us,ds0,bD,ds,r,ds',rfl,_,_,rd,e,_⟩:=h
    unfold aT at e
    split at e
    · rw [List.length_cons,rd.len];rfl
    · cases e
  obtain ⟨l,us,ds0,bD,ds,r,ds',rfl,hl,r0,rd,e,q⟩:=h
  unfold aT at e
  split at e
  · split at e
    · rename_i z m hm
      cases e
      obtain ⟨v,rfl,rv⟩:=r0.one
      cases rv
      obtain ⟨u,rfl,ru⟩:=rd.one
      cases ru
      have h1:=(of_decide_eq_true hm).1
      refine ⟨_,(cD (qJ (i:=2) sc_law_digit.nd rfl (Or.inl rfl) (kG qM (qX ix_list (pv 0) iD (fun _ _=>rfl)) (pv 1))) (cD (v6 (kG mR (qX ix_list (pv 0) iD (fun _ _=>rfl)) (pv 1)) (v4 (pv 0) iD qY)) (gH (qG (pv 2))))),?_⟩
      refine ⟨_,rfl,l,[.int z],_, .int z,rfl,rfl,SqL.of hl,rfl,_,rfl,_,_,rfl,rfl,h1,?_⟩
      refine ⟨_,rfl,l,[.int z],_, .int z,rfl,rfl,SqL.of hl,rfl,_,rfl,_,_,rfl,rfl,hm,?_⟩
      refine ⟨_,rfl,l,[.int z],_,0,rfl,rfl,hl,rfl,?_⟩
      refine ⟨_,rfl,?_⟩
      exact q _ _ [.int (z / m)] (SameBut.upd _) upd_same (.cons (.int _) .nil) (.int _)
    · cases e
  · cases e
abbrev f_:Stmt:=hG 24
theorem sc_law_cord:FnScope ["_law_cell","_law_nails_here","_law_wide_here","_law_most","_law_cord_here","_law_rest","_law_k","_law_nail"] ["_law_cell","_law_nails_here","_law_wide_here","_law_most"] (aj f_):=⟨rfl,rfl,rfl,by decide+kernel,rfl,by decide+kernel,by decide+kernel⟩
theorem nD (D:Def K mg "_law_cord" f_ ["_law_cell","_law_nails_here","_law_wide_here","_law_most"]) (B:Bn mg) (D_law_digit:Own P w K mg base 1 "_law_digit" ["_law_rest","_law_m"] (wK K aT)) (D_law_mix:Own P w K mg base 1 "_law_mix" ["_law_cell","_law_k"] (dh K bI)):Own P w K mg base 2 "_law_cord" ["_law_cell","_law_nails_here","_law_wide_here","_law_most"] (dh K aX):=by
  delta aX
  refine g3 (g:=dM) D sc_law_cord rfl rfl (by decide) fun f cdv A outer s H E hr=>?_
  delta dM
  exact (ao (aV 4 sc_law_cord.nd (df DL.nil))
  (ao (cN (cF (ym .lt .lt (jO (jN ap ap)) (ad 0) (jN ap ap)))
  (ao (aV 5 sc_law_cord.nd (df (DL.cons (ad 0) rfl DL.nil)))
  (ao (iN PassesOwn.never (by rfl) (kQ (by rfl) (by exact B.range) (ag (si 5 D_law_digit fX (hr.mono (by decide)) (by rfl) (ag (aA (ad 3) ap) ar)) ar)) (by delta c_;exact (bJ 6 sc_law_cord.nd))
  (by delta da;exact (ao (aV 7 sc_law_cord.nd (dI (ad 1) (si 5 D_law_digit fX (hr.mono (by decide)) (by rfl) (ag (e9 (by rfl) (by exact B.len) (ag (ad 1) ar)) ar))))
  (av (gM (gL 4 (g7 (DL.cons (ad 7) rfl (DL.cons (fQ (si 5 D_law_digit fX (hr.mono (by decide)) (by rfl) (ag (aA (cE ap (ad 2)) ap) ar)) (ad 2)) rfl DL.nil)))))))))
  (av (aE (ad 4)))))
  be)
  (ao (iN PassesOwn.never (by rfl) (kQ (by rfl) (by exact B.range) (ag (fR (aK D_law_mix (hr.mono (by decide)) (by rfl) (ag (ad 0) (ag ap ar))) (aA (ad 3) ap)) ar)) (by delta ce;exact (bJ 6 sc_law_cord.nd))
  (by delta cg;exact (ao (aV 7 sc_law_cord.nd (dI (ad 1) (fR (aK D_law_mix (hr.mono (by decide)) (by rfl) (ag (ad 0) (ag (aA (cE ap (ad 6)) ap) ar))) (e9 (by rfl) (by exact B.len) (ag (ad 1) ar)))))
  (av (gM (gL 4 (g7 (DL.cons (ad 7) rfl (DL.cons (fQ (fR (aK D_law_mix (hr.mono (by decide)) (by rfl) (ag (ad 0) (ag (aA (cE ap (ad 6)) ap) ar))) (aA (cE ap (ad 2)) ap)) (ad 2)) rfl DL.nil)))))))))
  (av (aE (ad 4))))))
abbrev dB:Stmt:=hG 25
theorem jk:FnScope ["_law_cord_here"] ["_law_cord_here"] (aj dB):=⟨rfl,rfl,rfl,by decide+kernel,rfl,by decide+kernel,by decide+kernel⟩
theorem jl (D:Def K mg "_law_contrary" dB ["_law_cord_here"]) (B:Bn mg):Own P w K mg base 1 "_law_contrary" ["_law_cord_here"] (dh K aN):=by
  delta aN
  refine g3 (g:=dy) D jk rfl rfl (by decide) fun f cdv A outer s H E hr=>?_
  delta dy
  exact (av (aE (h9 (N:=["_law_nail","_law_turns"]) (js:=[none,none]) dJ (by rfl) (rR (by rfl) (by exact B.reversed) (ad 0)) (fun _ _ _ _=>(by delta cC;exact (gZ (by rfl) (bQ (bJ 0 (show (["_law_nail","_law_turns"]:List Str).Nodup by decide+kernel)) (bQ (bJ 1 (show (["_law_nail","_law_turns"]:List Str).Nodup by decide+kernel)) fU))))) (fun _ _ _ _=>(by delta bV;exact (g7 (DL.cons (ad 0) rfl (DL.cons (jO (ad 1)) rfl DL.nil))))))))
abbrev fE:Stmt:=hG 27
theorem sc_law_right:FnScope ["_law_found","_law_due","_law_one","_law_other"] ["_law_found","_law_due"] (aj fE):=⟨rfl,rfl,rfl,by decide+kernel,rfl,by decide+kernel,by decide+kernel⟩
theorem mw (D:Def K mg "_law_right" fE ["_law_found","_law_due"]) (B:Bn mg):Own P w K mg base 1 "_law_right" ["_law_found","_law_due"] (dh K bW):=by
  delta bW
  refine g3 (g:=fw) D sc_law_right rfl rfl (by decide) fun f cdv A outer s H E hr=>?_
  delta fw
  exact (ao (cN (lQ (fJ (cF (cp (iK .list (by rfl) (by exact B.isinstance) (ad 0) (by rfl) (by exact B.list) PyProof.Rows.boot_list))) (fT (gi hr.units (e9 (by rfl) (by exact B.len) (ag (ad 0) ar)) (e9 (by rfl) (by exact B.len) (ag (ad 1) ar))))))
  (av (aE cU))
  be)
  (ao (iN PassesOwn.never (by rfl) (r_ (by rfl) (by exact B.zip) (ad 0) (ad 1)) (by delta cG;exact (gZ (by rfl) (bQ (bJ 2 sc_law_right.nd) (bQ (bJ 3 sc_law_right.nd) fU))))
  (by delta cH;exact (ao (cN (lQ (fJ (cF (cp (iK .tuple (by rfl) (by exact B.isinstance) (ad 2) (by rfl) (by exact B.tuple) PyProof.Rows.boot_tuple))) (fJ (gi hr.units (e9 (by rfl) (by exact B.len) (ag (ad 2) ar)) ap) (fT (cF (cp (iK .str (by rfl) (by exact B.isinstance) (dI (ad 2) ap) (by rfl) (by exact B.str) PyProof.Rows.boot_str)))))))
  (av (aE cU))
  be)
  (av (cN (lQ (fJ (cF (cp (iK .int (by rfl) (by exact B.isinstance) (dI (ad 2) ap) (by rfl) (by exact B.int) PyProof.Rows.boot_int))) (fJ (cp (iK .bool (by rfl) (by exact B.isinstance) (dI (ad 2) ap) (by rfl) (by exact B.bool) PyProof.Rows.boot_bool)) (fT (gi hr.units (ad 2) (ad 3))))))
  (av (aE cU))
  be)))))
  (av (aE cU))))
abbrev gb:Stmt:=hG 29
theorem sc_law_text:FnScope ["_law_cord_here","_law_words","_law_nail","_law_turns"] ["_law_cord_here"] (aj gb):=⟨rfl,rfl,rfl,by decide+kernel,rfl,by decide+kernel,by decide+kernel⟩
theorem nE (D:Def K mg "_law_text" gb ["_law_cord_here"]) (B:Bn mg):Own P w K mg base 1 "_law_text" ["_law_cord_here"] (dh K aR):=by
  delta aR
  refine g3 (g:=fY) D sc_law_text rfl rfl (by decide) fun f cdv A outer s H E hr=>?_
  delta fY
  exact (ao (aV 1 sc_law_text.nd bE)
  (ao (iN PassesOwn.never (by rfl) (jT (ad 0)) (by delta ci;exact (gZ (by rfl) (bQ (bJ 2 sc_law_text.nd) (bQ (bJ 3 sc_law_text.nd) fU))))
  (by delta cj;exact (av (aV 1 sc_law_text.nd (aA (aA (ad 1) (ad 2)) (lW (jv (by rfl) (by exact B.str) (ag (ad 3) ar)) (lT (by rfl) (by exact B.int) (ag (rJ hr.units (ad 3) ap) ar))))))))
  (av (aE (ad 1)))))
abbrev ix:Stmt:=hG 30
theorem sc_law_is:FnScope ["_law_term","_law_cord_here","_law_words","_law_found"] ["_law_term","_law_cord_here","_law_words"] (aj ix):=⟨rfl,rfl,rfl,by decide+kernel,rfl,by decide+kernel,by decide+kernel⟩
theorem qv (D:Def K mg "_law_is" ix ["_law_term","_law_cord_here","_law_words"]) (B:Bn mg) {C_is_Term:Addr} (D_is_Term:mg "Term"=some (.ref C_is_Term)∧IsRow K C_is_Term tab_is_Term) (D_m_pieces:DispM P w K mg base 1 "pieces" ai) (D_m_cord:DispM P w K mg base 70 "cord" bU) (D_law_right:Own P w K mg base 1 "_law_right" ["_law_found","_law_due"] (dh K bW)) (D_m_text:DispM P w K mg base 35 "text" bT):Own P w K mg base 71 "_law_is" ["_law_term","_law_cord_here","_law_words"] (dh K ax):=by
  delta ax
  refine g3 (g:=im) D sc_law_is rfl rfl (by decide) fun f cdv A outer s H E hr=>?_
  delta im
  exact (ao (cN (lQ (fJ (cF (cp (wP D_is_Term.2 (by rfl) (by exact B.isinstance) (ad 0) (by rfl) (by exact D_is_Term.1)))) (fJ (cp (iK .bool (by rfl) (by exact B.isinstance) (a_ D_m_pieces (hr.mono (by decide)) (ad 0)) (by rfl) (by exact B.bool) PyProof.Rows.boot_bool)) (fT (gi hr.units (a_ D_m_pieces (hr.mono (by decide)) (ad 0)) (e9 (by rfl) (by exact B.len) (ag (ad 1) ar)))))))
  (av (aE cU))
  be)
  (ao (aV 3 sc_law_is.nd (a_ D_m_cord (hr.mono (by decide)) (ad 0)))
  (ao (cN (lQ (fJ (cF (cp (aK D_law_right (hr.mono (by decide)) (by rfl) (ag (ad 3) (ag (ad 1) ar))))) (fT (gi hr.units (a_ D_m_text (hr.mono (by decide)) (ad 0)) (ad 2)))))
  (av (aE cU))
  be)
  (ao (gM (gL 3 (g7 (DL.cons bE rfl (DL.cons ap rfl DL.nil)))))
  (av (aE (lP (aK D_law_right (hr.mono (by decide)) (by rfl) (ag (a_ D_m_cord (hr.mono (by decide)) (ad 0)) (ag (ad 1) ar))) (lO (o8 hr.units (a_ D_m_pieces (hr.mono (by decide)) (ad 0)) (e9 (by rfl) (by exact B.len) (ag (ad 1) ar)))))))))))
abbrev fF:Stmt:=hG 31
theorem mx:FnScope ["_law_cord_here","_law_number"] ["_law_cord_here","_law_number"] (aj fF):=⟨rfl,rfl,rfl,by decide+kernel,rfl,by decide+kernel,by decide+kernel⟩
theorem my (D:Def K mg "_law_times" fF ["_law_cord_here","_law_number"]) (B:Bn mg) (D_law_contrary:Own P w K mg base 1 "_law_contrary" ["_law_cord_here"] (dh K aN)):Own P w K mg base 2 "_law_times" ["_law_cord_here","_law_number"] (dh K aB):=by
  delta aB
  refine g3 (g:=d_) D mx rfl rfl (by decide) fun f cdv A outer s H E hr=>?_
  delta d_
  exact (ao (cN (kY .lt (ad 1) ap)
  (av (aE (cE (aK D_law_contrary (hr.mono (by decide)) (by rfl) (ag (ad 0) ar)) (jO (ad 1)))))
  be)
  (av (aE (cE (ad 0) (ad 1)))))
abbrev dC:Stmt:=hG 32
theorem sc_law_too_long:FnScope ["_law_term","_law_many","e","_law_some"] ["_law_term","_law_many"] (aj dC):=⟨rfl,rfl,rfl,by decide+kernel,rfl,by decide+kernel,by decide+kernel⟩
theorem jm (D:Def K mg "_law_too_long" dC ["_law_term","_law_many"]) (B:Bn mg) (D_m_pieces:DispM P w K mg base 1 "pieces" ai) (D_m_cord:DispM P w K mg base 70 "cord" bU) (R_m_cord:li P w K mg base 1 "cord" dL) (XX:XF K mg):Own P w K mg base 71 "_law_too_long" ["_law_term","_law_many"] (dh K aU):=by
  obtain ⟨C_HangError,m_HangError,e_HangError⟩:=XX.e_HangError
  obtain ⟨C_NoCord,m_NoCord,t_NoCord⟩:=XX.c_NoCord
  obtain ⟨C_NoText,m_NoText,t_NoText⟩:=XX.c_NoText
  obtain ⟨C_TooMany,m_TooMany,t_TooMany⟩:=XX.c_TooMany
  obtain ⟨C_TooLong,m_TooLong,t_TooLong,z_TooLong⟩:=XX.c_TooLong
  delta aU
  refine g3 (g:=dz) D sc_law_too_long rfl rfl (by decide) fun f cdv A outer s H E hr=>?_
  delta dz
  exact (ao (cN (gi hr.units (a_ D_m_pieces (hr.mono (by decide)) (ad 0)) (ad 1))
  (av (aE cU))
  be)
  (ao (uX rfl sc_law_too_long.nd rfl rfl rfl (by rfl) (by exact m_HangError) e_HangError (av (gM (a_ D_m_cord (hr.mono (by decide)) (ad 0)))) (fun W=>(lZ (sR R_m_cord (hr.mono (by decide)) (ad 0)))) (fun ea oe C hx=>(ao (aV 3 sc_law_too_long.nd (df (DL.cons (ju (by rfl) (by exact B.isinstance) (ad 2) (by rfl) (by exact m_NoCord) t_NoCord) rfl (DL.cons (ju (by rfl) (by exact B.isinstance) (ad 2) (by rfl) (by exact m_NoText) t_NoText) rfl (DL.cons (ju (by rfl) (by exact B.isinstance) (ad 2) (by rfl) (by exact m_TooMany) t_TooMany) rfl DL.nil)))))
  (av (aE (lP (ju (by rfl) (by exact B.isinstance) (ad 2) (by rfl) (by exact m_TooLong) t_TooLong) (lO (u0 cU (ad 3)))))))))
  (av (aE cU))))
abbrev gc:Stmt:=hG 33
theorem sc_law_long:FnScope ["_law_parts","_law_many","_law_cell","_law_times_here","_law_some"] ["_law_parts","_law_many","_law_cell"] (aj gc):=⟨rfl,rfl,rfl,by decide+kernel,rfl,by decide+kernel,by decide+kernel⟩
theorem nG (D:Def K mg "_law_long" gc ["_law_parts","_law_many","_law_cell"]) (B:Bn mg) (D_mk_Times:MkOk P w K mg base 2 "Times" ["self","body","number"] (bA ai)) (D_m_cord:DispM P w K mg base 70 "cord" bU) (D_law_too_long:Own P w K mg base 71 "_law_too_long" ["_law_term","_law_many"] (dh K aU)) (D_mk_Piece:MkOk P w K mg base 1 "Piece" ["self","nail","turns"] cJ) (D_mk_Back:MkOk P w K mg base 2 "Back" ["self","one","other"] (fb ai)):Own P w K mg base 72 "_law_long" ["_law_parts","_law_many","_law_cell"] (dh K aY):=by
  delta aY
  refine g3 (g:=fg) D sc_law_long rfl rfl (by decide) fun f cdv A outer s H E hr=>?_
  delta fg
  exact (ao (cN (vz hr.units (ad 1) ap)
  (av (aE (o8 hr.units (a_ D_m_cord (hr.mono (by decide)) (bK D_mk_Times (hr.mono (by decide)) (by rfl) (ag (ad 0) (ag (jN ap ap) ar)))) (df DL.nil))))
  be)
  (ao (aV 3 sc_law_long.nd (aA (aA (fk ap (ad 1)) ap) (fR (ad 2) (jN ap ap))))
  (ao (cN (cF (cp (aK D_law_too_long (hr.mono (by decide)) (by rfl) (ag (bK D_mk_Times (hr.mono (by decide)) (by rfl) (ag (ad 0) (ag (fQ ap (ad 3)) ar))) (ag (cE (ad 1) (ad 3)) ar)))))
  (av (aE cU))
  be)
  (ao (aV 4 sc_law_long.nd (bK D_mk_Times (hr.mono (by decide)) (by rfl) (ag (ad 0) (ag (aA (fk ap (ad 1)) ap) ar))))
  (ao (cN (cF (cp (aK D_law_too_long (hr.mono (by decide)) (by rfl) (ag (bK D_mk_Back (hr.mono (by decide)) (by rfl) (ag (ad 4) (ag (bK D_mk_Piece (hr.mono (by decide)) (by rfl) (ag bE (ag ap ar))) ar))) (ag (aA (cE (cE ap (ad 1)) (aA (fk ap (ad 1)) ap)) ap) ar)))))
  (av (aE cU))
  be)
  (av (aE (lP (o8 hr.units (a_ D_m_cord (hr.mono (by decide)) (bK D_mk_Times (hr.mono (by decide)) (by rfl) (ag (bK D_mk_Times (hr.mono (by decide)) (by rfl) (ag (ad 0) (ag (ad 3) ar))) (ag ap ar)))) (df DL.nil)) (lO (o8 hr.units (e9 (by rfl) (by exact B.len) (ag (a_ D_m_cord (hr.mono (by decide)) (bK D_mk_Times (hr.mono (by decide)) (by rfl) (ag (ad 0) (ag (fk ap (ad 1)) ar)))) ar)) (cE (fk ap (ad 1)) (ad 1))))))))))))
abbrev dW:Stmt:=hG 34
theorem sc_law_singles:FnScope ["_law_pieces","_law_one","_law_piece","_law_due"] ["_law_pieces","_law_one"] (aj dW):=⟨rfl,rfl,rfl,by decide+kernel,rfl,by decide+kernel,by decide+kernel⟩
theorem j4 (D:Def K mg "_law_singles" dW ["_law_pieces","_law_one"]) (B:Bn mg) (D_fl_nail:∀cn∈(["Piece"]:List Str),∀C,PySem.W.nsIn K mainGlobals cn=some (some (.ref C))→Cls K C∧NoAttr K C "nail") (D_fl_turns:∀cn∈(["Piece"]:List Str),∀C,PySem.W.nsIn K mainGlobals cn=some (some (.ref C))→Cls K C∧NoAttr K C "turns") (D_law_text:Own P w K mg base 1 "_law_text" ["_law_cord_here"] (dh K aR)) (D_law_is:Own P w K mg base 71 "_law_is" ["_law_term","_law_cord_here","_law_words"] (dh K ax)):Own P w K mg base 72 "_law_singles" ["_law_pieces","_law_one"] (dh K bv):=by
  delta bv
  refine g3 (g:=dR) D sc_law_singles rfl rfl (by decide) fun f cdv A outer s H E hr=>?_
  delta dR
  exact (ao (iN PassesOwn.never (by rfl) (r_ (by rfl) (by exact B.zip) (ad 0) (ad 1)) (by delta bZ;exact (gZ (by rfl) (bQ (bJ 2 sc_law_singles.nd) (bQ (bJ 3 sc_law_singles.nd) fU))))
  (by delta b5;exact (av (cN (lQ (fJ (gi hr.units (g7 (DL.cons (bF D_fl_nail (ad 2)) rfl (DL.cons (bF D_fl_turns (ad 2)) rfl DL.nil))) (ad 3)) (fT (cF (cp (aK D_law_is (hr.mono (by decide)) (by rfl) (ag (ad 2) (ag (df (DL.cons (ad 3) rfl DL.nil)) (ag (aK D_law_text (hr.mono (by decide)) (by rfl) (ag (df (DL.cons (ad 3) rfl DL.nil)) ar)) ar)))))))))
  (av (aE cU))
  be))))
  (av (aE cU)))
abbrev j5:Stmt:=hG 35
theorem sc_law:FnScope ["_law_script","_law_wide_here","_law_one","_law_other","_law_number","_law_pieces","_law_parts","_law_second","_law_words","_law_times_here","_law_mark","_law_back","_law_due","_law_shown","_law_twice","_law_after","_law_whole","_law_cord_here"] ["_law_script"] (aj j5):=⟨rfl,rfl,rfl,by decide+kernel,rfl,by decide+kernel,by decide+kernel⟩
theorem wZ {f0:Addr} {fd:FuncData} (D:Fun K "law" "law" j5 f0 fd) (B:Bn mg) (D_law_at:Own P w K mg base 1 "_law_at" ["_law_script","_law_k"] (dh K bh)) (D_law_cord:Own P w K mg base 2 "_law_cord" ["_law_cell","_law_nails_here","_law_wide_here","_law_most"] (dh K aX)) (D_mk_Piece:MkOk P w K mg base 1 "Piece" ["self","nail","turns"] cJ) (D_law_singles:Own P w K mg base 72 "_law_singles" ["_law_pieces","_law_one"] (dh K bv)) (D_mk_Parts:MkOk P w K mg base 2 "Parts" ["self","parts"] (bo ai)) (D_law_text:Own P w K mg base 1 "_law_text" ["_law_cord_here"] (dh K aR)) (D_fl_parts:∀cn∈(["Parts"]:List Str),∀C,PySem.W.nsIn K mainGlobals cn=some (some (.ref C))→Cls K C∧NoAttr K C "parts") (D_law_is:Own P w K mg base 71 "_law_is" ["_law_term","_law_cord_here","_law_words"] (dh K ax)) (D_mk_Times:MkOk P w K mg base 2 "Times" ["self","body","number"] (bA ai)) (D_fl_number:∀cn∈(["Times"]:List Str),∀C,PySem.W.nsIn K mainGlobals cn=some (some (.ref C))→Cls K C∧NoAttr K C "number") (D_fl_body:∀cn∈(["Times"]:List Str),∀C,PySem.W.nsIn K mainGlobals cn=some (some (.ref C))→Cls K C∧NoAttr K C "body") (D_m_text:DispM P w K mg base 35 "text" bT) (D_law_times:Own P w K mg base 2 "_law_times" ["_law_cord_here","_law_number"] (dh K aB)) (D_mk_Back:MkOk P w K mg base 2 "Back" ["self","one","other"] (fb ai)) (D_law_contrary:Own P w K mg base 1 "_law_contrary" ["_law_cord_here"] (dh K aN)) (D_fl_one:∀cn∈(["Back"]:List Str),∀C,PySem.W.nsIn K mainGlobals cn=some (some (.ref C))→Cls K C∧NoAttr K C "one") (D_fl_other:∀cn∈(["Back"]:List Str),∀C,PySem.W.nsIn K mainGlobals cn=some (some (.ref C))→Cls K C∧NoAttr K C "other") (D_law_long:Own P w K mg base 72 "_law_long" ["_law_parts","_law_many","_law_cell"] (dh K aY)):FnOk P w K mg base gT 73 f0 fd ["_law_script"] (dh K g_):=by
  delta g_
  refine Ak (g:=lj) D sc_law rfl rfl (by decide) fun cdv A outer s H E hr=>?_
  delta lj
  exact (ao (aV 1 sc_law.nd (dI (df (DL.cons ap rfl (DL.cons (fQ (jN ap ap) ap) rfl DL.nil))) (fR (fk (aK D_law_at (hr.mono (by decide)) (by rfl) (ag (ad 0) (ag ap ar))) ap) ap)))
  (ao (aV 2 sc_law.nd (aK D_law_cord (hr.mono (by decide)) (by rfl) (ag (aK D_law_at (hr.mono (by decide)) (by rfl) (ag (ad 0) (ag ap ar))) (ag bE (ag (ad 1) (ag ap ar))))))
  (ao (aV 3 sc_law.nd (aK D_law_cord (hr.mono (by decide)) (by rfl) (ag (aK D_law_at (hr.mono (by decide)) (by rfl) (ag (ad 0) (ag ap ar))) (ag bE (ag (ad 1) (ag ap ar))))))
  (ao (aV 4 sc_law.nd (fQ (fR (aK D_law_at (hr.mono (by decide)) (by rfl) (ag (ad 0) (ag ap ar))) ap) ap))
  (ao (rT 5 sc_law.nd (N:=["_law_nail","_law_turns"]) (js:=[none,none]) dJ (by rfl) (jT (ad 2)) (fun _ _ _ _=>(by delta fL;exact (gZ (by rfl) (bQ (bJ 0 (show (["_law_nail","_law_turns"]:List Str).Nodup by decide+kernel)) (bQ (bJ 1 (show (["_law_nail","_law_turns"]:List Str).Nodup by decide+kernel)) fU))))) (fun _ _ _ _=>(by delta fM;exact (bK D_mk_Piece (hr.mono (by decide)) (by rfl) (ag (ad 0) (ag (ad 1) ar))))))
  (ao (cN (cF (cp (aK D_law_singles (hr.mono (by decide)) (by rfl) (ag (ad 5) (ag (ad 2) ar)))))
  (av (aE cU))
  be)
  (ao (aV 6 sc_law.nd (bK D_mk_Parts (hr.mono (by decide)) (by rfl) (ag (ad 5) ar)))
  (ao (gM (gL 5 (bK D_mk_Piece (hr.mono (by decide)) (by rfl) (ag bE (ag ap ar)))))
  (ao (aV 7 sc_law.nd (bK D_mk_Parts (hr.mono (by decide)) (by rfl) (ag (h9 (N:=["_law_nail","_law_turns"]) (js:=[none,none]) dJ (by rfl) (jT (ad 3)) (fun _ _ _ _=>(by delta io;exact (gZ (by rfl) (bQ (bJ 0 (show (["_law_nail","_law_turns"]:List Str).Nodup by decide+kernel)) (bQ (bJ 1 (show (["_law_nail","_law_turns"]:List Str).Nodup by decide+kernel)) fU))))) (fun _ _ _ _=>(by delta ip;exact (bK D_mk_Piece (hr.mono (by decide)) (by rfl) (ag (ad 0) (ag (ad 1) ar)))))) ar)))
  (ao (aV 8 sc_law.nd (df (DL.cons (aK D_law_text (hr.mono (by decide)) (by rfl) (ag (ad 2) ar)) rfl (DL.cons (aK D_law_text (hr.mono (by decide)) (by rfl) (ag (ad 3) ar)) rfl DL.nil))))
  (ao (cN (lQ (fJ (gi hr.units (uJ D_fl_parts (by rfl) (by exact B.len) (ad 6)) (e9 (by rfl) (by exact B.len) (ag (ad 2) ar))) (fT (cF (cp (aK D_law_is (hr.mono (by decide)) (by rfl) (ag (ad 6) (ag (ad 2) (ag (dI (ad 8) ap) ar)))))))))
  (av (aE cU))
  be)
  (ao (cN (cF (cp (aK D_law_is (hr.mono (by decide)) (by rfl) (ag (ad 7) (ag (ad 3) (ag (dI (ad 8) ap) ar))))))
  (av (aE cU))
  be)
  (ao (aV 9 sc_law.nd (bK D_mk_Times (hr.mono (by decide)) (by rfl) (ag (ad 6) (ag (ad 4) ar))))
  (ao (aV 10 sc_law.nd (lW (jv (by rfl) (by exact B.str) (ag (ad 4) ar)) (lT (by rfl) (by exact B.int) (ag (rJ hr.units (ad 4) ap) ar))))
  (ao (cN (lQ (fJ (gi hr.units (bF D_fl_number (ad 9)) (ad 4)) (fT (gi hr.units (a_ D_m_text (hr.mono (by decide)) (bF D_fl_body (ad 9))) (dI (ad 8) ap)))))
  (av (aE cU))
  be)
  (ao (cN (cF (cp (aK D_law_is (hr.mono (by decide)) (by rfl) (ag (ad 9) (ag (aK D_law_times (hr.mono (by decide)) (by rfl) (ag (ad 2) (ag (ad 4) ar))) (ag (aA (aA (aA bE (dI (ad 8) ap)) bE) (ad 10)) ar))))))
  (av (aE cU))
  be)
  (ao (aV 11 sc_law.nd (bK D_mk_Back (hr.mono (by decide)) (by rfl) (ag (ad 6) (ag (ad 7) ar))))
  (ao (aV 12 sc_law.nd (aA (aA (aA (ad 2) (ad 3)) (aK D_law_contrary (hr.mono (by decide)) (by rfl) (ag (ad 2) ar))) (aK D_law_contrary (hr.mono (by decide)) (by rfl) (ag (ad 3) ar))))
  (ao (aV 13 sc_law.nd (aA (aA (aA (aA bE (dI (ad 8) ap)) bE) (dI (ad 8) ap)) bE))
  (ao (cN (lQ (fJ (gi hr.units (a_ D_m_text (hr.mono (by decide)) (bF D_fl_one (ad 11))) (dI (ad 8) ap)) (fJ (gi hr.units (a_ D_m_text (hr.mono (by decide)) (bF D_fl_other (ad 11))) (dI (ad 8) ap)) (fT (cF (cp (aK D_law_is (hr.mono (by decide)) (by rfl) (ag (ad 11) (ag (ad 12) (ag (ad 13) ar))))))))))
  (av (aE cU))
  be)
  (ao (aV 14 sc_law.nd (bK D_mk_Times (hr.mono (by decide)) (by rfl) (ag (ad 11) (ag (fQ ap (ad 4)) ar))))
  (ao (aV 15 sc_law.nd (lW (jv (by rfl) (by exact B.str) (ag (fQ ap (ad 4)) ar)) (lT (by rfl) (by exact B.int) (ag (rJ hr.units (ad 4) (jO ap)) ar))))
  (ao (cN (cF (cp (aK D_law_is (hr.mono (by decide)) (by rfl) (ag (ad 14) (ag (aK D_law_times (hr.mono (by decide)) (by rfl) (ag (ad 12) (ag (fQ ap (ad 4)) ar))) (ag (aA (aA (aA bE (ad 13)) bE) (ad 15)) ar))))))
  (av (aE cU))
  be)
  (ao (aV 16 sc_law.nd (bK D_mk_Parts (hr.mono (by decide)) (by rfl) (ag (df (DL.cons (ad 7) rfl (DL.cons (ad 9) rfl (DL.cons (ad 14) rfl (DL.cons (ad 6) rfl DL.nil))))) ar)))
  (ao (aV 17 sc_law.nd (aA (aA (aA (ad 3) (aK D_law_times (hr.mono (by decide)) (by rfl) (ag (ad 2) (ag (ad 4) ar)))) (aK D_law_times (hr.mono (by decide)) (by rfl) (ag (ad 12) (ag (fQ ap (ad 4)) ar)))) (ad 2)))
  (ao (aV 12 sc_law.nd (aA (aA (aA (aA (dI (ad 8) ap) bE) (dI (ad 8) ap)) bE) (ad 10)))
  (ao (aV 12 sc_law.nd (aA (aA (aA (aA (aA (ad 12) bE) (ad 13)) bE) (ad 15)) (dI (ad 8) ap)))
  (ao (cN (cF (cp (aK D_law_long (hr.mono (by decide)) (by rfl) (ag (ad 6) (ag (e9 (by rfl) (by exact B.len) (ag (ad 2) ar)) (ag (aK D_law_at (hr.mono (by decide)) (by rfl) (ag (ad 0) (ag ap ar))) ar))))))
  (av (aE cU))
  be)
  (av (aE (lP (aK D_law_is (hr.mono (by decide)) (by rfl) (ag (ad 16) (ag (ad 17) (ag (ad 12) ar)))) (lO (aK D_law_is (hr.mono (by decide)) (by rfl) (ag (bK D_mk_Parts (hr.mono (by decide)) (by rfl) (ag (df DL.nil) ar)) (ag (df DL.nil) (ag bE ar))))))))))))))))))))))))))))))))))))
end
end Nhk62
namespace Nhk62
open PySem L2 Nh PL
theorem bG (w:List Nat):(⟨w.toArray⟩:Str).length=w.length:=by show w.toArray.size=_;simp
theorem fN (ns:List Int) (k:Nat):bh [.list (ns.map .int), .int k]=some (.sh (.int (ns.getD k 0))):=by
  simp only [bh,cO,List.length_cons,List.length_nil,Nat.zero_add,Nat.reduceAdd,cS,il,az,bn,dH,ah,ae,aI,List.map_cons,List.map_nil,Nat.sub_self,List.replicate,List.cons_append,List.nil_append,List.getElem?_cons_succ,List.getElem?_cons_zero,Sl.isBr,Bool.false_and,Bool.false_eq_true,bB,af,aq,Option.map_some,if_false,dX,dD,look,Sl.val,eG,Cm.i,Cm.s,Option.bind_some,aF,aD,fi,hot,cm,aM,pC,cr,ba,if_true]
  by_cases h:k < ns.length
  · simp [h,ib,aO,cr,ba]
  · simp [h,List.getElem?_eq_none (Nat.le_of_not_lt h),aO,cr,ba]
theorem w5 (cell k:Int) (a:∀i:Int,bz i k=true) (b:∀i j:Int,bz (i % 2305843009213693951 / 8191+k*k) j=true) (c:∀j:Int,bz (cell % 2305843009213693951+131*k+17) j=true):∃z:Int,bI [.int cell, .int k]=some (.sh (.int z)):=by
  have d1:gr 8191=true∧gr 7=true:=by decide
  simp only [bI,cO,List.length_cons,List.length_nil,Nat.zero_add,Nat.reduceAdd,cS,gN,az,aH,ah,ae,aI,List.map_cons,List.map_nil,Nat.reduceSub,List.replicate,List.cons_append,List.nil_append,List.getElem?_cons_zero,Sl.isBr,Bool.false_and,Bool.false_eq_true,pC,fj,dD,look,Sl.val,j9,Option.bind_some,if_false,Int.reduceLT,decide_true,if_true,Option.map_some,dF,hot,cm,Bool.not_false,Bool.true_or,Bool.and_true,aC,List.getElem?_cons_succ,a,PL.settle,frz,frzAll,Nat.reduceLT,List.set_cons_succ,List.set_cons_zero,aD,e8,c,d1.1,b,d1.2,cr,ba,aO]
  exact ⟨_,rfl⟩
theorem hJ (cell:Int) (k:Nat) (h:k≤100000):∃z:Int,bI [.int cell, .int k]=some (.sh (.int z)):=by
  refine w5 cell k (fun i=>pd (by omega) (by omega)) (fun i j=>?_) fun j=>?_
  · have h1:=Int.emod_nonneg i (show (2305843009213693951:Int)≠0 by omega)
    have h2:=Int.emod_lt_of_pos i (show (0:Int) < 2305843009213693951 by omega)
    have kk:(k:Int)*k≤100000*100000:=Int.mul_le_mul (by omega) (by omega) (by omega) (by omega)
    have kn:0≤(k:Int)*k:=Int.mul_nonneg (by omega) (by omega)
    generalize i % 2305843009213693951=z at h1 h2
    exact dq (by omega) (by omega)
  · have h1:=Int.emod_nonneg cell (show (2305843009213693951:Int)≠0 by omega)
    have h2:=Int.emod_lt_of_pos cell (show (0:Int) < 2305843009213693951 by omega)
    generalize cell % 2305843009213693951=z at h1 h2
    exact dq (by omega) (by omega)
def CkW (W:Int) (c:List Pc):Prop:=∀p∈c,(97≤p.1∧p.1≤122)∧p.2.natAbs≤W.natAbs
theorem pj {W:Int}:CkW W []:=fun _ z=>nomatch z
theorem CkW.append {W:Int} {c d:List Pc} (h:CkW W c) (h':CkW W d):CkW W (c++d):=fun p hp=>(List.mem_append.mp hp).elim (h p) (h' p)
theorem s_ {w:List Nat} (h:0 < w.length) (z:Int):∃y,y∈w∧atI w (z % (w.length:Int))=some y:=by
  have m0:=Int.emod_nonneg z (show (w.length:Int)≠0 by omega)
  have m1:=Int.emod_lt_of_pos z (show (0:Int) < w.length by omega)
  obtain ⟨i,hi⟩:∃i:Nat,z % (w.length:Int)=i:=⟨(z % (w.length:Int)).toNat,by omega⟩
  refine ⟨w[i]'(by omega),List.getElem_mem _,?_⟩
  rw [hi,ib,List.getElem?_eq_getElem]
theorem pk {W z:Int} (h1:1≤W) (h2:W < 2 ^ 100 - 1):(z % (2*W+1) - W).natAbs≤W.natAbs:=by
  have m0:=Int.emod_nonneg z (show 2*W+1≠0 by omega)
  have m1:=Int.emod_lt_of_pos z (show 0 < 2*W+1 by omega)
  generalize z % (2*W+1)=y at m0 m1
  omega
section
variable (w:List Nat) (W:Int) (hw:0 < w.length) (hw2:w.length≤26) (hn:∀a∈w,97≤a∧a≤122) (h1:1≤W) (h2:W < 2 ^ 100 - 1)
include hw hw2 hn h1 h2
theorem gz (x0 x3:Sl):∀(n lo:Nat) (bD:Int) (c:List Pc) (a b:Sl),c.length+n≤1000→CkW W c→
    ∃(rest':Int) (c':List Pc) (a' b':Sl),dl c_ da (jR lo n) [x0, .sh (.str ⟨w.toArray⟩), .sh (.int W),x3, .ow (c.map aJ), .ow [.int bD],a,b]=some ([x0, .sh (.str ⟨w.toArray⟩), .sh (.int W),x3, .ow (c'.map aJ), .ow [.int rest'],a',b'], .nx)∧c'.length=c.length+n∧CkW W c'
  | 0,lo,bD,c,a,b,_,hc=>⟨bD,c,a,b,rfl,rfl,hc⟩
  | n+1,lo,bD,c,a,b,hl,hc=>by
    obtain ⟨y,hy,ey⟩:=s_ hw bD
    have d1:gr (w.length:Int)=true:=ii (by omega) (by omega)
    have d2:gr (2*W+1)=true:=ii (by omega) (by omega)
    have m2:bz 2 W=true:=dq (by decide) (by decide)
    have lw:w.length≤1000000:=by omega
    have lb:c.length < 1000000:=by omega
    have tt:=pk (z:=bD / (w.length:Int)) h1 h2
    have step:(c_ (.int lo) [x0, .sh (.str ⟨w.toArray⟩), .sh (.int W),x3, .ow (c.map aJ), .ow [.int bD],a,b]).bind da=some ([x0, .sh (.str ⟨w.toArray⟩), .sh (.int W),x3, .ow ((c++[((y,bD / (w.length:Int) % (2*W+1) - W):Pc)]).map aJ), .ow [.int (bD / (w.length:Int) / (2*W+1))], .sh (.int lo), .sh (.str ⟨#[y]⟩)], .nx):=by
      simp only [c_,bt,List.length_cons,List.length_nil,Nat.zero_add,Nat.reduceAdd,Nat.reduceLT,List.set_cons_succ,List.set_cons_zero,if_true,da,dE,Option.bind_some,az,aH,ah,ae,List.getElem?_cons_succ,List.getElem?_cons_zero,Sl.isBr,Bool.true_and,eI,af,bB,Bool.false_and,Bool.false_eq_true,aq,Option.map_some,if_false,dX,aT,fi,look,Sl.val,hot,cm,aF,bG,lw,aZ,aO,Bool.and_true,d1,ey,PL.settle,frz,frzAll,fm,dk,gQ,aL,pC,dF,Int.reduceNeg,Bool.not_false,Bool.true_or,aC,dD,j9,bC,m2,d2,Nat.reduceLeDiff,List.length_map,lb,List.map_append,List.map_cons,aJ,List.map_nil]
    obtain ⟨r',c',a',b',e,l,k⟩:=gz x0 x3 n (lo+1) (bD / (w.length:Int) / (2*W+1)) (c++[((y,bD / (w.length:Int) % (2*W+1) - W):Pc)]) (.sh (.int lo)) (.sh (.str ⟨#[y]⟩)) (by simp;omega) (hc.append fun q hq=>by rw [List.mem_singleton.mp hq];exact ⟨hn y hy,tt⟩)
    refine ⟨r',c',a',b',?_,by rw [l];simp;omega,k⟩
    rw [kX,dl,step]
    exact e
end
theorem j6 (w:List Nat) (cell W K Ln z1 z2:Int) (y:Nat) (c:List Pc) (x3 x5 a b:Sl) (hLn:(w.length:Int)=Ln) (p1:0 < Ln) (p2:0 < 2*W+1) (lw:w.length≤1000000) (lb:c.length < 1000000) (m2:bz 2 W=true) (m3:bz 2 K=true) (ey:atI w (z1 % Ln)=some y)
    (e1:bI [.int cell, .int (2*K+1)]=some (.sh (.int z1))) (e2:bI [.int cell, .int (2*K+2)]=some (.sh (.int z2))):
    (ce (.int K) [.sh (.int cell), .sh (.str ⟨w.toArray⟩), .sh (.int W),x3, .ow (c.map aJ),x5,a,b]).bind cg=some ([.sh (.int cell), .sh (.str ⟨w.toArray⟩), .sh (.int W),x3, .ow ((c++[((y,z2 % (2*W+1) - W):Pc)]).map aJ),x5, .sh (.int K), .sh (.str ⟨#[y]⟩)], .nx):=by
  simp only [ce,bt,List.length_cons,List.length_nil,Nat.zero_add,Nat.reduceAdd,Nat.reduceLT,List.set_cons_succ,List.set_cons_zero,if_true,cg,fj,dE,Option.bind_some,az,aH,ah,ae,List.getElem?_cons_succ,List.getElem?_cons_zero,Sl.isBr,Bool.false_and,Bool.false_eq_true,au,af,pC,dF,look,Sl.val,Int.reduceNeg,hot,cm,if_false,Bool.not_false,Bool.true_or,Bool.and_true,aC,aq,Option.map_some,bB,dX,dD,j9,fi,m3,aF,e1,bG,lw,hLn,p1,decide_true,ey,PL.settle,frz,frzAll,fm,dk,gQ,aL,bC,e2,m2,p2,Nat.reduceLeDiff,List.length_map,lb,List.map_append,List.map_cons,aJ,List.map_nil]
section
variable (w:List Nat) (W:Int) (hw:0 < w.length) (hw2:w.length≤26) (hn:∀a∈w,97≤a∧a≤122) (h1:1≤W) (h2:W < 2 ^ 100 - 1)
include hw hw2 hn h1 h2
theorem gA (cell:Int) (x3 x5:Sl):∀(n lo:Nat) (c:List Pc) (a b:Sl),lo+n≤1000→c.length+n≤1000→CkW W c→
    ∃(c':List Pc) (a' b':Sl),dl ce cg (jR lo n) [.sh (.int cell), .sh (.str ⟨w.toArray⟩), .sh (.int W),x3, .ow (c.map aJ),x5,a,b]=some ([.sh (.int cell), .sh (.str ⟨w.toArray⟩), .sh (.int W),x3, .ow (c'.map aJ),x5,a',b'], .nx)∧c'.length=c.length+n∧CkW W c'
  | 0,lo,c,a,b,_,_,hc=>⟨c,a,b,rfl,rfl,hc⟩
  | n+1,lo,c,a,b,hlo,hl,hc=>by
    obtain ⟨z1,e1⟩:=hJ cell (2*lo+1) (by omega)
    obtain ⟨z2,e2⟩:=hJ cell (2*lo+2) (by omega)
    rw [show ((2*lo+1:Nat):Int)=2*(lo:Int)+1 by omega] at e1
    rw [show ((2*lo+2:Nat):Int)=2*(lo:Int)+2 by omega] at e2
    generalize hL:(lo:Int)=K at e1 e2
    obtain ⟨y,hy,ey⟩:=s_ hw z1
    obtain ⟨Ln,hLn⟩:∃Ln:Int,(w.length:Int)=Ln:=⟨_,rfl⟩
    have p1:0 < Ln:=by omega
    rw [hLn] at ey
    have p2:0 < 2*W+1:=by omega
    have m2:bz 2 W=true:=dq (by decide) (by decide)
    have m3:bz 2 K=true:=dq (by decide) (by decide)
    have lw:w.length≤1000000:=by omega
    have lb:c.length < 1000000:=by omega
    have tt:=pk (z:=z2) h1 h2
    have step:=j6 w cell W K Ln z1 z2 y c x3 x5 a b hLn p1 p2 lw lb m2 m3 ey e1 e2
    obtain ⟨c',a',b',e,l,k⟩:=gA cell x3 x5 n (lo+1) (c++[((y,z2 % (2*W+1) - W):Pc)]) (.sh (.int K)) (.sh (.str ⟨#[y]⟩)) (by omega) (by simp;omega) (hc.append fun q hq=>by rw [List.mem_singleton.mp hq];exact ⟨hn y hy,tt⟩)
    refine ⟨c',a',b',?_,by rw [l];simp;omega,k⟩
    rw [kX,dl,step]
    show dl ce cg (jR (K+1) n) _=_
    rw [←hL] at e ⊢
    exact e
end
section
variable (w:List Nat) (W:Int) (hw:0 < w.length) (hw2:w.length≤26) (hn:∀a∈w,97≤a∧a≤122) (h1:1≤W) (h2:W < 2 ^ 100 - 1)
include hw hw2 hn h1 h2
theorem i_ (cell:Int) (most:Nat) (hm:most≤100):∃c:List Pc,aX [.int cell, .str ⟨w.toArray⟩, .int W, .int most]=some (.ow (c.map aJ))∧c.length≤most∧CkW W c:=by
  have dm:gr ((most:Int)+1)=true:=ii (by omega) (by omega)
  have pm:0 < (most:Int)+1:=by omega
  by_cases big: -1000000000000000000 < cell∧cell < 1000000000000000000
  · obtain ⟨z,ez⟩:=hJ cell 0 (by omega)
    simp only [Int.natCast_zero] at ez
    have m0:=Int.emod_nonneg z (show (most:Int)+1≠0 by omega)
    have m1:=Int.emod_lt_of_pos z pm
    obtain ⟨n,hn'⟩:∃n:Nat,z % ((most:Int)+1)=n:=⟨(z % ((most:Int)+1)).toNat,by omega⟩
    obtain ⟨c',a',b',e,l,k⟩:=gA w W hw hw2 hn h1 h2 cell (.sh (.int most)) .no n 0 [] .no .no (by omega) (by simp;omega) pj
    refine ⟨c',?_,by rw [l];simp;omega,k⟩
    have ob: -1000000≤(n:Int)∧(n:Int)≤1000000:=by omega
    simp only [List.map_nil,Int.natCast_zero] at e
    simp only [aX,cO,List.length_cons,List.length_nil,Nat.zero_add,Nat.reduceAdd,cS,dM,az,aH,b9,bC,aI,List.map_cons,List.map_nil,Nat.reduceSub,List.replicate,List.cons_append,List.nil_append,Option.bind_some,Nat.reduceLeDiff,if_true,PL.settle,frz,frzAll,Nat.reduceLT,List.set_cons_succ,List.set_cons_zero,bn,aW,dH,gY,gh,ah,pC,Sl.isBr,Bool.false_and,Bool.false_eq_true,hW,dD,look,Sl.val,j9,Int.reducePow,Int.reduceNeg,if_false,Int.reduceLE,Int.reduceLT,and_self,decide_true,Int.reduceToNat,Option.map_some,gs,Bool.or_false,ae,eG,Cm.i,Cm.s,aL,h7,iM,af,eI,aC,hot,cm,Bool.not_false,Bool.true_or,Bool.and_true,aq,aD,aM,au,fj,List.getElem?_cons_zero,big.2,big.1,Bool.not_true,List.getElem?_cons_succ,aZ,aO,aF,ez,pm,hn',ob,Int.toNat_natCast,e,cr,ba,bH]
  · have m0:=Int.emod_nonneg cell (show (most:Int)+1≠0 by omega)
    have m1:=Int.emod_lt_of_pos cell pm
    obtain ⟨n,hn'⟩:∃n:Nat,cell % ((most:Int)+1)=n:=⟨(cell % ((most:Int)+1)).toNat,by omega⟩
    obtain ⟨r',c',a',b',e,l,k⟩:=gz w W hw hw2 hn h1 h2 (.sh (.int cell)) (.sh (.int most)) n 0 (cell / ((most:Int)+1)) [] .no .no (by simp;omega) pj
    refine ⟨c',?_,by rw [l];simp;omega,k⟩
    have ob: -1000000≤(n:Int)∧(n:Int)≤1000000:=by omega
    simp only [List.map_nil,Int.natCast_zero] at e
    by_cases b1: -1000000000000000000 < cell
    · have b2:¬cell < 1000000000000000000:=fun z=>big ⟨b1,z⟩
      simp only [aX,cO,List.length_cons,List.length_nil,Nat.zero_add,Nat.reduceAdd,cS,dM,az,aH,b9,bC,aI,List.map_cons,List.map_nil,Nat.reduceSub,List.replicate,List.cons_append,List.nil_append,Option.bind_some,Nat.reduceLeDiff,if_true,PL.settle,frz,frzAll,Nat.reduceLT,List.set_cons_succ,List.set_cons_zero,bn,aW,dH,gY,gh,ah,pC,Sl.isBr,Bool.false_and,Bool.false_eq_true,hW,dD,look,Sl.val,j9,Int.reducePow,Int.reduceNeg,if_false,Int.reduceLE,Int.reduceLT,and_self,decide_true,Int.reduceToNat,Option.map_some,gs,Bool.or_false,ae,eG,Cm.i,Cm.s,aL,h7,iM,af,eI,aC,hot,cm,Bool.not_false,Bool.true_or,Bool.and_true,aq,aT,aD,aM,au,fj,List.getElem?_cons_zero,b2,decide_false,b1,List.getElem?_cons_succ,aZ,aO,aF,dm,hn',ob,Int.toNat_natCast,e,cr,ba,bH]
    · simp only [aX,cO,List.length_cons,List.length_nil,Nat.zero_add,Nat.reduceAdd,cS,dM,az,aH,b9,bC,aI,List.map_cons,List.map_nil,Nat.reduceSub,List.replicate,List.cons_append,List.nil_append,Option.bind_some,Nat.reduceLeDiff,if_true,PL.settle,frz,frzAll,Nat.reduceLT,List.set_cons_succ,List.set_cons_zero,bn,aW,dH,gY,gh,ah,pC,Sl.isBr,Bool.false_and,Bool.false_eq_true,hW,dD,look,Sl.val,j9,Int.reducePow,Int.reduceNeg,if_false,Int.reduceLE,Int.reduceLT,and_self,decide_true,Int.reduceToNat,Option.map_some,gs,Bool.or_false,ae,eG,Cm.i,Cm.s,aL,h7,iM,af,eI,aC,hot,cm,Bool.not_false,Bool.true_or,Bool.and_true,aq,aT,aD,aM,au,fj,List.getElem?_cons_zero,b1,decide_false,List.getElem?_cons_succ,aZ,aO,aF,dm,hn',ob,Int.toNat_natCast,e,cr,ba,bH]
end
theorem gm:∀(d:List Pc) (x0 x1:Sl),fo cC dY bV (d.map aJ) [x0,x1]=some ((d.map fun p=>((p.1,-p.2):Pc)).map aJ)
  | [],x0,x1=>rfl
  | p::d,x0,x1=>by
    have e:(cC (aJ p) [x0,x1])=some [.sh (.str ⟨#[p.1]⟩), .sh (.int p.2)]:=rfl
    have e2:bV [.sh (.str ⟨#[p.1]⟩), .sh (.int p.2)]=some (.sh (aJ (p.1,-p.2)),[.sh (.str ⟨#[p.1]⟩), .sh (.int p.2)]):=by
      simp only [bV,gQ,aL,ae,List.getElem?_cons_zero,frz,gh,look,Sl.val,gs,bC,Option.map_some,Option.bind_some,List.getElem?_cons_succ,List.length_cons,List.length_nil,Nat.zero_add,Nat.reduceAdd,Nat.reduceLeDiff,if_true,aJ]
    rw [List.map_cons,fo,e,Option.bind_some]
    simp only [dY,frz,Option.bind_some,e2,gm d,Option.map_some,if_true,List.map_cons]
theorem eB (c:List Pc) (h:c.length≤1000000):aN [.list (c.map aJ)]=some (.ow ((NH.contr c).map aJ)):=by
  have hl:(NH.contr c).length=c.length:=NH.a9 c
  have e:(c.reverse.map fun p=>((p.1,-p.2):Pc))=NH.contr c:=rfl
  have k:=gm c.reverse .no .no
  rw [e,List.map_reverse] at k
  simp only [aN,cO,List.length_cons,List.length_nil,Nat.zero_add,cS,dy,aD,e_,m6,ae,aI,List.map_cons,List.map_nil,Nat.sub_self,List.replicate,List.cons_append,List.nil_append,List.getElem?_cons_zero,frz,Option.bind_some,fV,jS,k,bH,List.length_map,hl,h,decide_true,Bool.and_true,if_true,cr,ba]
theorem ja:∀(d:List Pc) (x0 x1:Sl),fo dP dY cV (d.map aJ) [x0,x1]=some ((d.map fun p=>((p.1,-p.2):Pc)).map aJ)
  | [],x0,x1=>rfl
  | p::d,x0,x1=>by
    have e:(dP (aJ p) [x0,x1])=some [.sh (.str ⟨#[p.1]⟩), .sh (.int p.2)]:=rfl
    have e2:cV [.sh (.str ⟨#[p.1]⟩), .sh (.int p.2)]=some (.sh (aJ (p.1,-p.2)),[.sh (.str ⟨#[p.1]⟩), .sh (.int p.2)]):=by
      simp only [cV,gQ,aL,ae,List.getElem?_cons_zero,frz,gh,look,Sl.val,gs,bC,Option.map_some,Option.bind_some,List.getElem?_cons_succ,List.length_cons,List.length_nil,Nat.zero_add,Nat.reduceAdd,Nat.reduceLeDiff,if_true,aJ]
    rw [List.map_cons,fo,e,Option.bind_some]
    simp only [dY,frz,Option.bind_some,e2,ja d,Option.map_some,if_true,List.map_cons]
theorem gB (c:List Pc) (h:c.length≤1000000):bS [.list (c.map aJ)]=some (.ow ((NH.contr c).map aJ)):=by
  have hl:(NH.contr c).length=c.length:=NH.a9 c
  have e:(c.reverse.map fun p=>((p.1,-p.2):Pc))=NH.contr c:=rfl
  have k:=ja c.reverse .no .no
  rw [e,List.map_reverse] at k
  simp only [bS,cO,List.length_cons,List.length_nil,Nat.zero_add,cS,fW,aD,e_,m6,ae,aI,List.map_cons,List.map_nil,Nat.sub_self,List.replicate,List.cons_append,List.nil_append,List.getElem?_cons_zero,frz,Option.bind_some,fV,jS,k,bH,List.length_map,hl,h,decide_true,Bool.and_true,if_true,cr,ba]
theorem iy (x0 x1:Sl):∀(W:List Pc) (a b:Sl),NailsOk W→∃a' b',dl cG cH (gR (W.map aJ) (W.map aJ)) [x0,x1,a,b]=some ([x0,x1,a',b'], .nx)
  | [],a,b,_=>⟨a,b,rfl⟩
  | p::W,a,b,h=>by
    have q:=sV (h p (List.mem_cons_self ..)) (h p (List.mem_cons_self ..))
    rw [decide_eq_true rfl] at q
    have q2:mS (.tuple [.str ⟨#[p.1]⟩, .int p.2]) (.tuple [.str ⟨#[p.1]⟩, .int p.2])=some true:=q
    have e:(cG (.tuple [aJ p,aJ p]) [x0,x1,a,b]).bind cH=some ([x0,x1, .sh (aJ p), .sh (aJ p)], .nx):=by
      simp only [cG,gk,aJ,List.length_cons,List.length_nil,Nat.zero_add,Nat.reduceAdd,cq,bt,Nat.reduceLT,List.set_cons_succ,List.set_cons_zero,if_true,Option.bind_some,gj,List.isEmpty_nil,cH,fS,az,bn,eg,aW,b8,gh,ae,List.getElem?_cons_succ,List.getElem?_cons_zero,look,Sl.val,ji,Ty.is,wD,Option.map_some,gn,Bool.not_true,dH,ah,bB,af,Sl.isBr,Bool.false_and,Bool.false_eq_true,aq,if_false,dX,pC,dD,fi,hot,cm,aF,Int.cast_ofNat_Int,bR,decide_true,i8,aD,aM,m7,q2]
    obtain ⟨a',b',ih⟩:=iy x0 x1 W (.sh (aJ p)) (.sh (aJ p)) fun r hr=>h r (List.mem_cons_of_mem _ hr)
    refine ⟨a',b',?_⟩
    rw [List.map_cons,gR,dl,e]
    exact ih
theorem mz (W:List Pc) (h:NailsOk W) (hl:W.length≤100000):bW [.list (W.map aJ), .list (W.map aJ)]=some (.sh (.bool true)):=by
  obtain ⟨a,b,e⟩:=iy (.sh (.list (W.map aJ))) (.sh (.list (W.map aJ))) W .no .no h
  have lb:W.length≤1000000:=by omega
  simp only [bW,cO,List.length_cons,List.length_nil,Nat.zero_add,Nat.reduceAdd,cS,fw,az,bn,eg,aW,b8,gh,ae,aI,List.map_cons,List.map_nil,Nat.reduceSub,List.replicate,List.cons_append,List.nil_append,List.getElem?_cons_zero,look,Sl.val,ji,Ty.is,wD,Option.bind_some,Option.map_some,gn,Bool.not_true,dH,ah,bB,af,Sl.isBr,Bool.false_and,Bool.false_eq_true,aq,if_false,dX,fS,dD,aF,List.length_map,List.getElem?_cons_succ,bR,decide_true,aD,pC,aM,h7,m8,frz,e,cr,ba,aO,if_true]
def xG (n:Nat):Prop:=97≤n∧n≤122
def fH (t:Int):List Nat:=if t=1 then [] else NH.jZ t
def cP (p:Pc):PyData:=cR "Piece" [(.str "nail", .str ⟨#[p.1]⟩),(.str "turns", .int p.2),(.str "size", .int 1)]
def nM (p:Pc):List Nat:=p.1::fH p.2
def jb (r:List Pc):List Nat:=r.flatMap nM
theorem bX {cs:List Str} {f cn:Str} {kvs:List (PyData×PyData)} {d:PyData} {E:List Sl} {i:Nat} (e:E[i]? =some (.sh (cR cn kvs))) (hc:cs.contains cn=true) (l:fK f kvs=some d):bx cs f (ae i) E=some (.sh d,E):=by
  simp only [bx,ae,e,Option.bind_some,look,Sl.val,hc,if_true,l,hot,cm,Bool.not_false,Bool.true_or]
theorem j_ {f:Str} {d:PyData} {r:List (PyData×PyData)}:fK f ((.str f,d)::r)=some d:=by unfold fK;rw [if_pos rfl]
theorem qD {f g:Str} {d:PyData} {r:List (PyData×PyData)} (h:g≠f):fK f ((.str g,d)::r)=fK f r:=by
  conv=>lhs;unfold fK
  rw [if_neg h]
theorem zz {f a b:Str} {x y d:PyData} {r:List (PyData×PyData)} (h1:a≠f) (h2:b≠f):fK f ((.str a,x)::(.str b,y)::(.str f,d)::r)=some d:=(qD h1).trans ((qD h2).trans j_)
section
variable {a b c e:List PyData→Option Sl} {kvs:List (PyData×PyData)}
theorem oC:gS [("Piece",a),("Parts",b),("Times",c),("Back",e)] [cR "Piece" kvs]=a [cR "Piece" kvs]:=by
  unfold gS cR
  simp only [List.lookup_cons,beq_self_eq_true,Option.bind_some]
theorem oE:gS [("Piece",a),("Parts",b),("Times",c),("Back",e)] [cR "Parts" kvs]=b [cR "Parts" kvs]:=by
  have z:(Str.ofString "Parts" == Str.ofString "Piece")=false:=by decide+kernel
  unfold gS cR
  simp only [List.lookup_cons,z,beq_self_eq_true,Option.bind_some]
theorem oF:gS [("Piece",a),("Parts",b),("Times",c),("Back",e)] [cR "Times" kvs]=c [cR "Times" kvs]:=by
  have z:(Str.ofString "Times" == Str.ofString "Piece")=false:=by decide+kernel
  have y:(Str.ofString "Times" == Str.ofString "Parts")=false:=by decide+kernel
  unfold gS cR
  simp only [List.lookup_cons,z,y,beq_self_eq_true,Option.bind_some]
theorem oG:gS [("Piece",a),("Parts",b),("Times",c),("Back",e)] [cR "Back" kvs]=e [cR "Back" kvs]:=by
  have z:(Str.ofString "Back" == Str.ofString "Piece")=false:=by decide+kernel
  have y:(Str.ofString "Back" == Str.ofString "Parts")=false:=by decide+kernel
  have x:(Str.ofString "Back" == Str.ofString "Times")=false:=by decide+kernel
  unfold gS cR
  simp only [List.lookup_cons,z,y,x,beq_self_eq_true,Option.bind_some]
end
def Cn (cn:Str):Prop:=cn="Piece"∨cn="Parts"∨cn="Times"∨cn="Back"
theorem oH {a:List PyData→Option Sl} {cn:Str} {kvs:List (PyData×PyData)} (h:Cn cn):gS [("Piece",a),("Parts",a),("Times",a),("Back",a)] [cR cn kvs]=a [cR cn kvs]:=by
  rcases h with rfl | rfl | rfl | rfl
  · exact oC
  · exact oE
  · exact oF
  · exact oG
theorem c4 {cn:Str} (h:Cn cn):(["Piece","Parts","Times","Back"]:List Str).contains cn=true:=by
  rcases h with rfl | rfl | rfl | rfl <;> decide+kernel
theorem c1 (s:Str):([s]:List Str).contains s=true:=by simp
structure Tk (d:PyData) (z:Int):Prop where
  ex:∃cn kvs,d=cR cn kvs∧Cn cn∧fK "size" kvs=some (.int z)
  fl:aO d=true
theorem Tk.fld {d:PyData} {z:Int} (h:Tk d z) {E:List Sl} {i:Nat} (e:E[i]? =some (.sh d)):bx ["Piece","Parts","Times","Back"] "size" (ae i) E=some (.sh (.int z),E):=by
  obtain ⟨⟨cn,kvs,rfl,hc,l⟩,_⟩:=h
  exact bX e (c4 hc) l
theorem Tk.sz {d:PyData} {z:Int} (h:Tk d z):ai [d]=some (.sh (.int z)):=by
  have f:=h.fld (E:=[.sh d]) (i:=0) rfl
  have e:ai [d]=bu [d]:=by
    obtain ⟨⟨cn,kvs,rfl,hc,l⟩,_⟩:=h
    exact oH hc
  rw [e]
  simp only [bu,cO,List.length_cons,List.length_nil,Nat.zero_add,cS,dQ,aD,aI,List.map_cons,List.map_nil,Nat.sub_self,List.replicate,List.cons_append,List.nil_append,f,Option.bind_some,cr,ba,aO,if_true]
def td (ds:List PyData) (z:Int):PyData:=cR "Parts" [(.str "kept", .tuple ds),(.str "size", .int z),(.tuple [.str "parts"], .int ds.length)]
def iY (d:PyData) (k z:Int):PyData:=cR "Times" [(.str "body",d),(.str "number", .int k),(.str "size", .int z)]
def nN (d e:PyData) (z:Int):PyData:=cR "Back" [(.str "one",d),(.str "other",e),(.str "size", .int z)]
theorem tj (p:Pc):Tk (cP p) 1:=⟨⟨_,_,rfl, .inl rfl,zz (by decide+kernel) (by decide+kernel)⟩,rfl⟩
theorem yt {ds:List PyData} (z:Int) (h:aZ ds=true):Tk (td ds z) z:=⟨⟨_,_,rfl, .inr (.inl rfl),(qD (by decide+kernel)).trans j_⟩,by simp [td,aO,kN,i4,mP,pS,h]⟩
theorem lq {d:PyData} (k z:Int) (h:aO d=true):Tk (iY d k z) z:=⟨⟨_,_,rfl, .inr (.inr (.inl rfl)),zz (by decide+kernel) (by decide+kernel)⟩,by simp [iY,aO,kN,i4,mP,pS,h]⟩
theorem vE {d e:PyData} (z:Int) (h:aO d=true) (h':aO e=true):Tk (nN d e z) z:=⟨⟨_,_,rfl, .inr (.inr (.inr rfl)),zz (by decide+kernel) (by decide+kernel)⟩,by simp [nN,aO,kN,i4,mP,pS,h,h']⟩
theorem gd {d:PyData} {z:Int} (h:Tk d z):nK ai d=some z:=by unfold nK;rw [h.sz]
structure It where
  A:List Nat
  d:PyData
  z:Int
  c:List Pc
def oI (p:Pc):It:=⟨nM p,cP p,1,[p]⟩
def jc (x:It) (k:Int) (c:List Pc):It:=⟨40::(x.A++41::fH k),iY x.d k (x.z*ay k),x.z*ay k,c⟩
def di (x y:It):It:=⟨91::(x.A++44::(y.A++[93])),nN x.d y.d (2*(x.z+y.z)),2*(x.z+y.z),x.c++y.c++NH.contr x.c++NH.contr y.c⟩
theorem tm:∀r:List It,(∀x∈r,Tk x.d x.z)→xF ai (r.map It.d)=some (r.map It.z)
  | [],_=>rfl
  | x::r,h=>by
    have ih:=tm r fun q hq=>h q (List.mem_cons_of_mem _ hq)
    rw [List.map_cons,xF,(h x (List.mem_cons_self ..)).sz]
    simp only [ih,Option.map_some,List.map_cons]
theorem mB:∀r:List It,(∀x∈r,Tk x.d x.z)→aZ (r.map It.d)=true
  | [],_=>rfl
  | x::r,h=>by rw [List.map_cons,aZ,(h x (List.mem_cons_self ..)).fl,mB r fun q hq=>h q (List.mem_cons_of_mem _ hq)];rfl
def iZ (r:List It):It:=⟨r.flatMap It.A,td (r.map It.d) (r.map It.z).sum,(r.map It.z).sum,r.flatMap It.c⟩
theorem u6 {self:List PyData→Option Sl} {d:PyData} {z:Int} {ds:List PyData} (h:Tk d z) (h1:0 < z) (h2:z≤4000) (e:self [d]=some (.ow ds)) (hf:aZ ds=true):oy self [d]=some (.ow ds):=by
  have f:=h.fld (E:=[.sh d]) (i:=0) rfl
  have e0:oy self [d]=bp self [d]:=by
    obtain ⟨⟨cn,kvs,rfl,hc,l⟩,_⟩:=h
    exact oH hc
  have l1:(4000 < z)=False:=eq_false (by omega)
  have l2:(0 < z)=True:=eq_true h1
  rw [e0]
  simp only [bp,cO,List.length_cons,List.length_nil,Nat.zero_add,cS,d0,az,bn,dH,ah,aI,List.map_cons,List.map_nil,Nat.sub_self,List.replicate,List.cons_append,List.nil_append,f,Sl.isBr,Bool.false_and,Bool.false_eq_true,pC,dD,look,Sl.val,eG,Cm.i,Cm.s,Option.bind_some,if_false,l1,decide_false,Option.map_some,aM,aD,tP,a7,ae,b9,bC,Nat.reduceLeDiff,if_true,l2,decide_true,List.getElem?_cons_zero,e,cr,ba,hf]
theorem mC {self:List PyData→Option Sl} {d:PyData} (h:Tk d 0):oy self [d]=some (.ow []):=by
  have f:=h.fld (E:=[.sh d]) (i:=0) rfl
  have e0:oy self [d]=bp self [d]:=by
    obtain ⟨⟨cn,kvs,rfl,hc,l⟩,_⟩:=h
    exact oH hc
  rw [e0]
  simp only [bp,cO,List.length_cons,List.length_nil,Nat.zero_add,cS,d0,az,bn,dH,ah,aI,List.map_cons,List.map_nil,Nat.sub_self,List.replicate,List.cons_append,List.nil_append,f,Sl.isBr,Bool.false_and,Bool.false_eq_true,pC,dD,look,Sl.val,eG,Cm.i,Cm.s,Option.bind_some,if_false,Int.reduceLT,decide_false,Option.map_some,aM,aD,tP,b9,bC,Nat.reduceLeDiff,if_true,cr,ba,aZ]
theorem tw {d:PyData} {z:Int} (h:Tk d z) (h2:4000 < z):dL [d]=some ("TooLong":Str):=by
  have f:=h.fld (E:=[.sh d]) (i:=0) rfl
  have e0:dL [d]=du [d]:=by
    obtain ⟨⟨cn,kvs,rfl,hc,l⟩,_⟩:=h
    exact if_pos (c4 hc)
  have l2:(4000 < z)=True:=eq_true h2
  rw [e0]
  simp only [du,yq,List.length_cons,List.length_nil,Nat.zero_add,ft,yV,dH,ah,aI,List.map_cons,List.map_nil,Nat.sub_self,List.replicate,List.cons_append,List.nil_append,f,Sl.isBr,Bool.false_and,Bool.false_eq_true,pC,dD,look,Sl.val,eG,Cm.i,Cm.s,Option.bind_some,if_false,l2,decide_true,Option.map_some,sL,if_true]
structure Co (n:Nat) (x:It):Prop where
  tk:Tk x.d x.z
  nn:0≤x.z
  co:x.z≤4000→oy (cM n) [x.d]=some (.ow (x.c.map aJ))∧(x.c.length:Int)=x.z
theorem Co.mk' {n:Nat} {x:It} (tk:Tk x.d x.z) (nn:0≤x.z) (hl:x.z≤4000→(x.c.length:Int)=x.z) (h:0 < x.z→x.z≤4000→cM n [x.d]=some (.ow (x.c.map aJ))):Co n x:=by
  refine ⟨tk,nn,fun h4=>⟨?_,hl h4⟩⟩
  by_cases z:x.z=0
  · have hc:x.c=[]:=List.eq_nil_of_length_eq_zero (by have:=hl h4;omega)
    rw [hc]
    rw [z] at tk
    exact mC tk
  · exact u6 tk (by omega) h4 (h (by omega) h4) (bH _)
theorem yu (n:Nat) (p:Pc):Co (n+1) (oI p):=by
  refine .mk' (tj p) (show (0:Int)≤1 by decide) (fun _=>rfl) fun _ _=>?_
  have e2:cM (n+1) [cP p]=cX [cP p]:=oC
  have f1:bx ["Piece"] "nail" (ae 0) [.sh (cP p)]=some (.sh (.str ⟨#[p.1]⟩),[.sh (cP p)]):=bX rfl (c1 _) j_
  have f2:bx ["Piece"] "turns" (ae 0) [.sh (cP p)]=some (.sh (.int p.2),[.sh (cP p)]):=bX rfl (c1 _) ((qD (by decide+kernel)).trans j_)
  show cM (n+1) [cP p]=_
  rw [e2]
  simp only [cX,cO,List.length_cons,List.length_nil,Nat.zero_add,cS,eJ,aD,b9,aL,gQ,aI,List.map_cons,List.map_nil,Nat.sub_self,List.replicate,List.cons_append,List.nil_append,f1,frz,bC,Option.map_some,Option.bind_some,f2,Nat.reduceAdd,Nat.reduceLeDiff,if_true,cr,ba,aZ,aO,Bool.and_true,oI,aJ]
theorem pq (self:List PyData→Option Sl) (x0:Sl):∀(r:List It) (acc:List Pc) (a:Sl),(∀x∈r,self [x.d]=some (.ow (x.c.map aJ)))→acc.length+(r.flatMap It.c).length≤900000→∃a',dl bM (bN self) (r.map It.d) [x0, .ow (acc.map aJ),a]=some ([x0, .ow ((acc++r.flatMap It.c).map aJ),a'], .nx)
  | [],acc,a,_,_=>⟨a,by rw [List.flatMap_nil,List.append_nil];rfl⟩
  | x::r,acc,a,h,hl=>by
    have hs:=h x (List.mem_cons_self ..)
    have h1:((acc.map aJ).length+(x.c.map aJ).length≤1000000)=True:=eq_true (by rw [List.length_map,List.length_map];simp at hl;omega)
    have ff:=bH x.c
    have st:(bM x.d [x0, .ow (acc.map aJ),a]).bind (bN self)=some ([x0, .ow ((acc++x.c).map aJ), .sh x.d], .nx):=by
      rw [List.map_append]
      generalize x.c.map aJ=q at hs h1 ff
      simp only [bM,bt,List.length_cons,List.length_nil,Nat.zero_add,Nat.reduceAdd,Nat.reduceLT,List.set_cons_succ,List.set_cons_zero,if_true,bN,Option.bind_some,fm,jt,List.getElem?_cons_succ,List.getElem?_cons_zero,a7,ae,look,Sl.val,hs,Option.map_some,h1]
    obtain ⟨a',e⟩:=pq self x0 r (acc++x.c) (.sh x.d) (fun q hq=>h q (List.mem_cons_of_mem _ hq)) (by simp at hl ⊢;omega)
    refine ⟨a',?_⟩
    rw [List.map_cons,dl,st]
    rw [List.flatMap_cons,←List.append_assoc]
    exact e
theorem tz:∀r:List It,(∀x∈r,(x.c.length:Int)=x.z)→((r.flatMap It.c).length:Int)=(r.map It.z).sum
  | [],_=>rfl
  | x::r,h=>by
    have ih:=tz r fun q hq=>h q (List.mem_cons_of_mem _ hq)
    have:=h x (List.mem_cons_self ..)
    rw [List.flatMap_cons,List.length_append,List.map_cons,List.sum_cons,←ih,←this]
    omega
theorem oJ:∀r:List It,(∀x∈r,0≤x.z)→0≤(r.map It.z).sum
  | [],_=>Int.le_refl _
  | x::r,h=>by
    have ih:=oJ r fun q hq=>h q (List.mem_cons_of_mem _ hq)
    have:=h x (List.mem_cons_self ..)
    rw [List.map_cons,List.sum_cons]
    omega
theorem tD:∀r:List It,(∀x∈r,0≤x.z)→∀x∈r,x.z≤(r.map It.z).sum
  | [],_,_,hx=>nomatch hx
  | y::r,h,x,hx=>by
    have s:=oJ r fun q hq=>h q (List.mem_cons_of_mem _ hq)
    rw [List.map_cons,List.sum_cons]
    rcases List.mem_cons.mp hx with e | e
    · rw [e];omega
    · have:=tD r (fun q hq=>h q (List.mem_cons_of_mem _ hq)) x e
      have:=h y (List.mem_cons_self ..)
      omega
theorem yw {n:Nat} {r:List It} (h:∀x∈r,Co n x):Co (n+1) (iZ r):=by
  have nn:∀x∈r,0≤x.z:=fun x hx=>(h x hx).nn
  have hf:=mB r fun x hx=>(h x hx).tk
  have sm:(iZ r).z≤4000→∀x∈r,x.z≤4000:=fun z x hx=>Int.le_trans (tD r nn x hx) z
  have hl:(iZ r).z≤4000→((iZ r).c.length:Int)=(iZ r).z:=fun z=>tz r fun x hx=>((h x hx).co (sm z x hx)).2
  refine .mk' (yt _ hf) (oJ r nn) hl fun z0 z4=>?_
  have e2:cM (n+1) [(iZ r).d]=cZ (oy (cM n)) [(iZ r).d]:=oE
  rw [e2]
  have l4:=hl z4
  obtain ⟨a',l⟩:=pq (oy (cM n)) (.sh (iZ r).d) r [] .no (fun x hx=>((h x hx).co (sm z4 x hx)).1) (by
    have:(r.flatMap It.c).length=(iZ r).c.length:=rfl
    simp only [List.length_nil]
    omega)
  rw [List.nil_append] at l
  have k:bx ["Parts"] "kept" (ae 0) [.sh (iZ r).d, .ow [], .no]=some (.sh (.tuple (r.map It.d)),[.sh (iZ r).d, .ow [], .no]):=bX rfl (c1 _) j_
  have l':dl bM (bN (oy (cM n))) (r.map It.d) [.sh (iZ r).d, .ow [], .no]=_:=l
  have fy:aZ ((iZ r).c.map aJ)=true:=bH _
  have cc:(iZ r).c=r.flatMap It.c:=rfl
  rw [cc] at fy ⊢
  generalize r.map It.d=q at k l'
  generalize (r.flatMap It.c).map aJ=y at l' fy ⊢
  simp only [cZ,cO,List.length_cons,List.length_nil,Nat.zero_add,cS,eL,az,aH,b9,bC,aI,List.map_cons,List.map_nil,Nat.reduceSub,List.replicate,List.cons_append,List.nil_append,Option.bind_some,Nat.reduceLeDiff,if_true,PL.settle,frz,frzAll,Nat.reduceAdd,Nat.reduceLT,List.set_cons_succ,List.set_cons_zero,h7,iO,aD,ae,k,l',List.getElem?_cons_succ,List.getElem?_cons_zero,Option.map_some,cr,ba,fy]
def rp (c:List Pc) (k:Int):List Pc:=if k < 0 then (List.replicate (-k).toNat (NH.contr c)).flatten else (List.replicate k.toNat c).flatten
theorem pw {α:Type} (k:Nat) (l:List α):(List.replicate k l).flatten.length=k*l.length:=by simp
theorem oK (c:List Pc) (k:Int):((rp c k).length:Int)=c.length*ay k:=by
  unfold rp ay
  split
  · rename_i h
    rw [pw,NH.a9,Int.natCast_mul,Int.toNat_of_nonneg (by omega),Int.mul_comm]
  · rename_i h
    rw [pw,Int.natCast_mul,Int.toNat_of_nonneg (by omega),Int.mul_comm]
theorem nH (c:List Pc) (k:Int) (h1:0 < c.length) (h:(c.length:Int)*ay k≤4000) (h2:0 < (c.length:Int)*ay k):b6 [.list (c.map aJ), .int k]=some (.ow ((rp c k).map aJ)):=by
  have ak:0≤ay k:=by unfold ay;split <;> omega
  have kb:ay k≤4000:=by
    have:1*ay k≤(c.length:Int)*ay k:=Int.mul_le_mul_of_nonneg_right (by omega) ak
    omega
  have cb:(c.length:Int)≤4000:=by
    have a1:1≤ay k:=by
      rcases Int.lt_or_le (ay k) 1 with z | z
      · have:ay k=0:=by omega
        rw [this] at h2
        simp at h2
      · exact z
    have:(c.length:Int)*1≤(c.length:Int)*ay k:=Int.mul_le_mul_of_nonneg_left a1 (by omega)
    omega
  have lm:(c.length*(ay k).toNat≤1000000)=True:=eq_true (by
    have:((c.length*(ay k).toNat:Nat):Int)=(c.length:Int)*ay k:=by rw [Int.natCast_mul,Int.toNat_of_nonneg ak]
    omega)
  have k1:(-1000000≤ay k)=True:=eq_true (by omega)
  have k2:(ay k≤1000000)=True:=eq_true (by omega)
  by_cases hk:k < 0
  · have ea:ay k= -k:=if_pos hk
    have er:rp c k=(List.replicate (-k).toNat (NH.contr c)).flatten:=if_pos hk
    have ec:=gB c (by omega)
    have lc:(NH.contr c).length=c.length:=NH.a9 c
    rw [ea] at lm k1 k2
    rw [er]
    simp only [b6,cO,List.length_cons,List.length_nil,Nat.zero_add,Nat.reduceAdd,cS,fe,aD,ah,tP,dH,ae,aI,List.map_cons,List.map_nil,Nat.sub_self,List.replicate,List.cons_append,List.nil_append,List.getElem?_cons_succ,List.getElem?_cons_zero,Sl.isBr,Bool.false_and,Bool.false_eq_true,pC,dD,look,Sl.val,eG,Cm.i,Cm.s,Option.bind_some,if_false,hk,decide_true,Option.map_some,au,af,aq,aF,ec,if_true,bB,rN,dF,hot,cm,Bool.not_false,Bool.true_or,Bool.and_true,List.length_map,lc,lm,k1,k2,and_self,jr,cr,ba,bH]
  · have ea:ay k=k:=if_neg hk
    have er:rp c k=(List.replicate k.toNat c).flatten:=if_neg hk
    rw [ea] at lm k1 k2
    rw [er]
    simp only [b6,cO,List.length_cons,List.length_nil,Nat.zero_add,Nat.reduceAdd,cS,fe,aD,ah,tP,dH,ae,aI,List.map_cons,List.map_nil,Nat.sub_self,List.replicate,List.cons_append,List.nil_append,List.getElem?_cons_succ,List.getElem?_cons_zero,Sl.isBr,Bool.false_and,Bool.false_eq_true,pC,dD,look,Sl.val,eG,Cm.i,Cm.s,Option.bind_some,if_false,hk,decide_false,Option.map_some,au,af,aq,aF,bB,rN,dF,hot,cm,Bool.not_false,Bool.true_or,Bool.and_true,List.length_map,lm,k1,k2,and_self,decide_true,jr,if_true,cr,ba,bH]
theorem vF {n:Nat} {x:It} {k:Int} {c:List Pc} (h:Co n x) (hc:x.z*ay k≤4000→c=rp x.c k):Co (n+1) (jc x k c):=by
  have ak:0≤ay k:=by unfold ay;split <;> omega
  have z4:x.z*ay k≤4000→0 < x.z*ay k→x.z≤4000:=fun a b=>by
    have a1:1≤ay k:=by
      rcases Int.lt_or_le (ay k) 1 with z | z
      · have:ay k=0:=by omega
        rw [this] at b
        simp at b
      · exact z
    have:x.z*1≤x.z*ay k:=Int.mul_le_mul_of_nonneg_left a1 h.nn
    omega
  have lr:x.z*ay k≤4000→((rp x.c k).length:Int)=x.z*ay k:=fun a=>by
    rw [oK]
    by_cases b:0 < x.z*ay k
    · rw [(h.co (z4 a b)).2]
    · have b0:x.z*ay k=0:=by have:=Int.mul_nonneg h.nn ak;omega
      rcases Int.mul_eq_zero.mp b0 with q | q
      · have:=(h.co (by omega)).2
        rw [this]
      · rw [q];simp
  refine .mk' (lq k _ h.tk.fl) (Int.mul_nonneg h.nn ak) (fun a=>by
    show (c.length:Int)=x.z*ay k
    rw [hc a];exact lr a) fun z0 z4'=>?_
  have a0:0 < x.z*ay k:=z0
  have a4:x.z*ay k≤4000:=z4'
  obtain ⟨e1,e2⟩:=h.co (z4 a4 a0)
  have p1:0 < x.c.length:=by
    rcases Nat.eq_zero_or_pos x.c.length with q | q
    · rw [q] at e2
      rw [←e2] at a0
      simp at a0
    · exact q
  have er:=nH x.c k p1 (by rw [e2];exact a4) (by rw [e2];exact a0)
  have e3:cM (n+1) [(jc x k c).d]=c8 (oy (cM n)) [(jc x k c).d]:=oF
  rw [e3]
  have f1:bx ["Times"] "body" (ae 0) [.sh (jc x k c).d]=some (.sh x.d,[.sh (jc x k c).d]):=bX rfl (c1 _) j_
  have f2:bx ["Times"] "number" (ae 0) [.sh (jc x k c).d]=some (.sh (.int k),[.sh (jc x k c).d]):=bX rfl (c1 _) ((qD (by decide+kernel)).trans j_)
  have cc:(jc x k c).c=rp x.c k:=hc a4
  have fy:=bH (rp x.c k)
  rw [cc]
  generalize (rp x.c k).map aJ=y at er fy ⊢
  simp only [c8,cO,List.length_cons,List.length_nil,Nat.zero_add,cS,eN,aD,au,af,a7,aI,List.map_cons,List.map_nil,Nat.sub_self,List.replicate,List.cons_append,List.nil_append,f1,look,Sl.val,Option.bind_some,e1,Option.map_some,Sl.isBr,Bool.false_and,Bool.false_eq_true,aq,if_false,f2,aF,er,cr,ba,fy,if_true]
theorem w6 (a b:List Pc) (h:a.length+b.length≤10000):aQ [.list (a.map aJ), .list (b.map aJ)]=some (.ow ((a++b++NH.contr a++NH.contr b).map aJ)):=by
  have e1:=gB a (by omega)
  have e2:=gB b (by omega)
  have la:(NH.contr a).length=a.length:=NH.a9 a
  have lb:(NH.contr b).length=b.length:=NH.a9 b
  have l1:(a.length+b.length≤1000000)=True:=eq_true (by omega)
  have l2:((a++b).length+(NH.contr a).length≤1000000)=True:=eq_true (by rw [List.length_append];omega)
  have l3:((a++b++NH.contr a).length+(NH.contr b).length≤1000000)=True:=eq_true (by rw [List.length_append,List.length_append];omega)
  simp only [aQ,cO,List.length_cons,List.length_nil,Nat.zero_add,Nat.reduceAdd,cS,cK,aD,ah,ae,aI,List.map_cons,List.map_nil,Nat.sub_self,List.replicate,List.cons_append,List.nil_append,List.getElem?_cons_zero,Sl.isBr,Bool.false_and,Bool.false_eq_true,aC,look,Sl.val,hot,cm,if_false,Option.bind_some,List.getElem?_cons_succ,Bool.not_false,Bool.true_or,Bool.and_true,List.length_map,l1,decide_true,←List.map_append,if_true,au,af,aq,Option.map_some,aF,e1,l2,e2,l3,cr,ba,bH]
theorem yx {n:Nat} {x y:It} (h:Co n x) (k:Co n y):Co (n+1) (di x y):=by
  have hx:=h.nn
  have hy:=k.nn
  have nn:(di x y).z=2*(x.z+y.z):=rfl
  refine .mk' (vE _ h.tk.fl k.tk.fl) (by omega) (fun a=>?_) fun z0 z4=>?_
  · have e1:=(h.co (by omega)).2
    have e2:=(k.co (by omega)).2
    show ((x.c++y.c++NH.contr x.c++NH.contr y.c).length:Int)=_
    simp only [List.length_append,NH.a9]
    omega
  · obtain ⟨e1,q1⟩:=h.co (by omega)
    obtain ⟨e2,q2⟩:=k.co (by omega)
    have er:=w6 x.c y.c (by omega)
    have e3:cM (n+1) [(di x y).d]=dv (oy (cM n)) [(di x y).d]:=oG
    rw [e3]
    have f1:bx ["Back"] "one" (ae 0) [.sh (di x y).d]=some (.sh x.d,[.sh (di x y).d]):=bX rfl (c1 _) j_
    have f2:bx ["Back"] "other" (ae 0) [.sh (di x y).d]=some (.sh y.d,[.sh (di x y).d]):=bX rfl (c1 _) ((qD (by decide+kernel)).trans j_)
    have fy:=bH (di x y).c
    have er':aQ [.list (x.c.map aJ), .list (y.c.map aJ)]=some (.ow ((di x y).c.map aJ)):=er
    generalize (di x y).c.map aJ=w at er' fy ⊢
    simp only [dv,cO,List.length_cons,List.length_nil,Nat.zero_add,cS,fu,aD,au,af,a7,aI,List.map_cons,List.map_nil,Nat.sub_self,List.replicate,List.cons_append,List.nil_append,f1,look,Sl.val,Option.bind_some,e1,Option.map_some,Sl.isBr,Bool.false_and,Bool.false_eq_true,aq,if_false,f2,e2,aF,er',cr,ba,fy,if_true]
theorem py (t:Int):Str.ofString (toString t)=⟨(NH.jZ t).toArray⟩:=by
  unfold NH.jZ
  generalize Str.ofString (toString t)=x
  cases x
  simp
theorem gC (u v:List Nat):(⟨u.toArray⟩:Str)++(⟨v.toArray⟩:Str)=⟨(u++v).toArray⟩:=by
  show (⟨u.toArray++v.toArray⟩:Str)=_
  simp
theorem mD {t:Int} (h:t.natAbs < 10 ^ 30):t.natAbs.log2 < 1920:=by
  by_cases z:t.natAbs=0
  · rw [z];decide
  · exact (Nat.log2_lt z).mpr (Nat.lt_of_lt_of_le h (by decide+kernel))
theorem gP {t:Int} (h:t.natAbs < 10 ^ 30):(fH t).length≤31:=by
  unfold fH
  split
  · simp
  · exact NH.ma h
theorem jw:∀{r:List Pc},(∀p∈r,p.2.natAbs < 10 ^ 30)→(jb r).length≤32*r.length
  | [],_=>Nat.le_refl _
  | p::r,h=>by
    have l:=gP (h p (List.mem_cons_self ..))
    have ih:=jw fun q hq=>h q (List.mem_cons_of_mem _ hq)
    have e:jb (p::r)=nM p++jb r:=rfl
    rw [e,List.length_append]
    simp only [nM,List.length_cons] at *
    omega
theorem oM (w:List Nat):Txt.mul ⟨w.toArray⟩ 0=⟨([]:List Nat).toArray⟩:=rfl
theorem mE (w:List Nat):Txt.mul ⟨w.toArray⟩ 1=⟨w.toArray⟩:=by
  unfold Txt.mul
  rw [if_neg (by decide)]
  exact if_pos (by simp)
theorem nI (x0 a b:Sl) (acc:List Nat) (p:Pc) (h:p.2.natAbs < 10 ^ 30) (la:acc.length≤900000):(ci (aJ p) [x0, .sh (.str ⟨acc.toArray⟩),a,b]).bind cj=some ([x0, .sh (.str ⟨(acc++nM p).toArray⟩), .sh (.str ⟨#[p.1]⟩), .sh (.int p.2)], .nx):=by
  have l1:((⟨acc.toArray⟩:Str).length+(⟨#[p.1]⟩:Str).length≤1000000)=True:=eq_true (by show acc.toArray.size+1≤_;rw [List.size_toArray];omega)
  have a1:(⟨acc.toArray⟩:Str)++(⟨#[p.1]⟩:Str)=⟨(acc++[p.1]).toArray⟩:=gC acc [p.1]
  have lg:(p.2.natAbs.log2 < 1920)=True:=eq_true (mD h)
  have nl:=NH.ma h
  have e0:=py p.2
  have ml:((⟨(NH.jZ p.2).toArray⟩:Str).length≤1000)=True:=eq_true (by rw [bG];omega)
  by_cases h1:p.2=1
  · have e:fH p.2=[]:=by unfold fH;rw [if_pos h1]
    have l2:((⟨(acc++[p.1]).toArray⟩:Str).length+(⟨([]:List Nat).toArray⟩:Str).length≤1000000)=True:=eq_true (by rw [bG,bG];simp;omega)
    have a2:(⟨(acc++[p.1]).toArray⟩:Str)++(⟨([]:List Nat).toArray⟩:Str)=⟨(acc++nM p).toArray⟩:=by rw [gC];unfold nM;rw [e];simp
    have hd:decide (p.2=1)=true:=decide_eq_true h1
    have m0:=oM (NH.jZ p.2)
    simp only [ci,gk,aJ,List.length_cons,List.length_nil,Nat.zero_add,Nat.reduceAdd,cq,bt,Nat.reduceLT,List.set_cons_succ,List.set_cons_zero,if_true,Option.bind_some,gj,List.isEmpty_nil,cj,gl,fS,aH,ah,ae,List.getElem?_cons_succ,List.getElem?_cons_zero,Sl.isBr,Bool.false_and,Bool.false_eq_true,aC,look,Sl.val,hot,cm,if_false,Bool.not_false,Bool.true_or,Bool.and_true,l1,a1,bB,af,aq,Option.map_some,fc,pC,dD,iR,ig,Int.reduceNeg,aF,lg,e0,bR,hd,Bool.not_true,ml,Int.reduceLE,and_self,m0,l2,a2,PL.settle,frz,frzAll]
  · have e:fH p.2=NH.jZ p.2:=by unfold fH;rw [if_neg h1]
    have l2:((⟨(acc++[p.1]).toArray⟩:Str).length+(⟨(NH.jZ p.2).toArray⟩:Str).length≤1000000)=True:=eq_true (by rw [bG,bG];simp;omega)
    have a2:(⟨(acc++[p.1]).toArray⟩:Str)++(⟨(NH.jZ p.2).toArray⟩:Str)=⟨(acc++nM p).toArray⟩:=by rw [gC];unfold nM;rw [e];simp
    have hd:decide (p.2=1)=false:=decide_eq_false h1
    have m0:=mE (NH.jZ p.2)
    simp only [ci,gk,aJ,List.length_cons,List.length_nil,Nat.zero_add,Nat.reduceAdd,cq,bt,Nat.reduceLT,List.set_cons_succ,List.set_cons_zero,if_true,Option.bind_some,gj,List.isEmpty_nil,cj,gl,fS,aH,ah,ae,List.getElem?_cons_succ,List.getElem?_cons_zero,Sl.isBr,Bool.false_and,Bool.false_eq_true,aC,look,Sl.val,hot,cm,if_false,Bool.not_false,Bool.true_or,Bool.and_true,l1,a1,bB,af,aq,Option.map_some,fc,pC,dD,iR,ig,Int.reduceNeg,aF,lg,e0,bR,hd,ml,Int.reduceLE,and_self,m0,l2,a2,PL.settle,frz,frzAll]
theorem jd (x0:Sl):∀(r:List Pc) (acc:List Nat) (a b:Sl),(∀p∈r,p.2.natAbs < 10 ^ 30)→acc.length+32*r.length≤900000→∃a' b',dl ci cj (r.map aJ) [x0, .sh (.str ⟨acc.toArray⟩),a,b]=some ([x0, .sh (.str ⟨(acc++jb r).toArray⟩),a',b'], .nx)
  | [],acc,a,b,_,_=>⟨a,b,by rw [show jb []=[] from rfl,List.append_nil];rfl⟩
  | p::r,acc,a,b,h,hl=>by
    have hp:=h p (List.mem_cons_self ..)
    have st:=nI x0 a b acc p hp (by omega)
    have ln:=gP hp
    obtain ⟨a',b',e⟩:=jd x0 r (acc++nM p) (.sh (.str ⟨#[p.1]⟩)) (.sh (.int p.2)) (fun q hq=>h q (List.mem_cons_of_mem _ hq)) (by simp only [List.length_append,nM,List.length_cons] at hl ⊢;omega)
    refine ⟨a',b',?_⟩
    rw [List.map_cons,dl,st]
    rw [show acc++jb (p::r)=acc++nM p++jb r by rw [List.append_assoc];rfl]
    exact e
theorem gD (r:List Pc) (h:∀p∈r,p.2.natAbs < 10 ^ 30) (hl:r.length≤20000):aR [.list (r.map aJ)]=some (.sh (.str ⟨(jb r).toArray⟩)):=by
  obtain ⟨a',b',e⟩:=jd (.sh (.list (r.map aJ))) r [] .no .no h (by simp;omega)
  rw [List.nil_append] at e
  have e0:Str.ofString ""=⟨([]:List Nat).toArray⟩:=by decide+kernel
  simp only [aR,cO,List.length_cons,List.length_nil,Nat.zero_add,cS,fY,az,aH,pC,e0,aI,List.map_cons,List.map_nil,Nat.reduceSub,List.replicate,List.cons_append,List.nil_append,PL.settle,frz,frzAll,Option.bind_some,Nat.reduceAdd,Nat.reduceLT,List.set_cons_succ,List.set_cons_zero,if_true,h7,iO,ae,aD,List.getElem?_cons_zero,e,List.getElem?_cons_succ,cr,ba,aO]
def pz (w:List Nat):Str:=⟨w.toArray⟩
theorem gE (t:Int) (h:t.natAbs < 10 ^ 30):aS [.int t]=some (.sh (.str ⟨(fH t).toArray⟩)):=by
  have l:(t.natAbs.log2 < 1920)=True:=eq_true (mD h)
  by_cases h1:t=1
  · have e:fH t=[]:=by unfold fH;rw [if_pos h1]
    rw [e]
    simp only [aS,cO,h1,List.length_cons,List.length_nil,Nat.zero_add,cS,cW,aD,tP,dH,ah,ae,aI,List.map_cons,List.map_nil,Nat.sub_self,List.replicate,List.cons_append,List.nil_append,List.getElem?_cons_zero,Sl.isBr,Bool.false_and,Bool.false_eq_true,pC,o7,dD,look,Sl.val,Option.bind_some,if_false,bR,decide_true,Option.map_some,bB,af,aq,aF,if_true,cr,ba,aO]
    rfl
  · have e:fH t=NH.jZ t:=by unfold fH;rw [if_neg h1]
    rw [e,←py]
    simp only [aS,cO,List.length_cons,List.length_nil,Nat.zero_add,cS,cW,aD,tP,dH,ah,ae,aI,List.map_cons,List.map_nil,Nat.sub_self,List.replicate,List.cons_append,List.nil_append,List.getElem?_cons_zero,Sl.isBr,Bool.false_and,Bool.false_eq_true,pC,o7,dD,look,Sl.val,Option.bind_some,if_false,bR,h1,decide_false,Option.map_some,bB,af,aq,fc,aF,l,if_true,cr,ba,aO]
theorem u7:∀F:List (List Nat),Txt.join "" (F.map pz)=⟨F.flatten.toArray⟩:=by
  intro F
  show Builtin.Str.glued "" _=_
  rw [StrLaws.glued_eq_join]
  induction F with
  | nil=>rfl
  | cons a F ih=>
    cases F with
    | nil=>simp [Str.join,pz]
    | cons b F=>
      have e:Str.join "" ((a::b::F).map pz)=(pz a)++""++Str.join "" ((b::F).map pz):=rfl
      rw [e,ih]
      show (⟨(a.toArray++(Str.ofString "").cps)++(b::F).flatten.toArray⟩:Str)=_
      rw [show (Str.ofString "").cps=#[] by decide+kernel]
      simp
theorem tE:∀F:List (List Nat),((F.map pz).map (·.length)).sum+(F.map pz).length*(Str.ofString "").length=F.flatten.length:=by
  intro F
  have:(Str.ofString "").length=0:=rfl
  rw [this,Nat.mul_zero,Nat.add_zero]
  induction F with
  | nil=>rfl
  | cons a F ih=>
    simp only [List.map_cons,List.sum_cons,ih,List.flatten_cons,List.length_append]
    rw [show (pz a).length=a.length from bG a]
structure Tx (n:Nat) (x:It):Prop where
  tx:cT n [x.d]=some (.sh (.str ⟨x.A.toArray⟩))
  ln:x.A.length≤400000
theorem yy (n:Nat) {p:Pc} (h:p.2.natAbs < 10 ^ 30):Tx (n+1) (oI p):=by
  have l:=gP h
  refine ⟨?_,by show (p.1::fH p.2).length≤_;rw [List.length_cons];omega⟩
  have e2:cT (n+1) [cP p]=cY [cP p]:=oC
  have f1:bx ["Piece"] "nail" (ae 0) [.sh (cP p)]=some (.sh (.str ⟨#[p.1]⟩),[.sh (cP p)]):=bX rfl (c1 _) j_
  have f2:bx ["Piece"] "turns" (ae 0) [.sh (cP p)]=some (.sh (.int p.2),[.sh (cP p)]):=bX rfl (c1 _) ((qD (by decide+kernel)).trans j_)
  have e:=gE p.2 h
  have hl:((⟨#[p.1]⟩:Str).length+(⟨(fH p.2).toArray⟩:Str).length≤1000000)=True:=eq_true (by show 1+(fH p.2).toArray.size≤1000000;rw [List.size_toArray];omega)
  have a:(⟨#[p.1]⟩:Str)++(⟨(fH p.2).toArray⟩:Str)=⟨(nM p).toArray⟩:=gC [p.1] _
  show cT (n+1) [cP p]=_
  rw [e2]
  simp only [cY,cO,List.length_cons,List.length_nil,Nat.zero_add,cS,eK,aD,ah,aI,List.map_cons,List.map_nil,Nat.sub_self,List.replicate,List.cons_append,List.nil_append,f1,Sl.isBr,Bool.false_and,Bool.false_eq_true,au,af,aq,Option.map_some,if_false,aC,look,Sl.val,hot,cm,Option.bind_some,f2,aF,e,Bool.not_false,Bool.true_or,Bool.and_true,hl,a,if_true,cr,ba,aO,oI]
theorem pA (self:List PyData→Option Sl) (x0:Sl):∀r:List It,(∀x∈r,self [x.d]=some (.sh (.str ⟨x.A.toArray⟩)))→fo db dY (b_ self) (r.map It.d) [x0]=some (((r.map It.A).map pz).map PyData.str)
  | [],_=>rfl
  | x::r,h=>by
    have e:db x.d [x0]=some [.sh x.d]:=rfl
    have e2:b_ self [.sh x.d]=some (.sh (.str ⟨x.A.toArray⟩),[.sh x.d]):=by
      simp only [b_,a7,ae,List.getElem?_cons_zero,look,Sl.val,Option.bind_some,h x (List.mem_cons_self ..),Option.map_some]
    have ih:=pA self (.sh x.d) r fun q hq=>h q (List.mem_cons_of_mem _ hq)
    rw [List.map_cons,fo,e,Option.bind_some]
    simp only [dY,frz,Option.bind_some,e2,ih,Option.map_some,if_true,List.map_cons]
    rfl
theorem yz (r:List It) (h:(r.flatMap It.A).length≤1000000):pb (Str.ofString "") (.list (((r.map It.A).map pz).map PyData.str))=some (.str ⟨(r.flatMap It.A).toArray⟩):=by
  have e1:=n_ ((r.map It.A).map pz)
  have e2:=tE (r.map It.A)
  have e3:=u7 (r.map It.A)
  have e4:(r.map It.A).flatten=r.flatMap It.A:=by rw [List.flatMap_def]
  rw [e4] at e2 e3
  unfold pb
  simp only [e1,Option.bind_some]
  rw [e2,if_pos h,e3]
theorem yA {n:Nat} {r:List It} (h:∀x∈r,Tx n x) (hl:r.length≤1000) (hA:(r.flatMap It.A).length≤400000):Tx (n+1) (iZ r):=by
  refine ⟨?_,hA⟩
  have e:cT (n+1) [(iZ r).d]=c0 (cT n) [(iZ r).d]:=oE
  rw [e]
  have k:bx ["Parts"] "kept" (ae 0) [.sh (iZ r).d]=some (.sh (.tuple (r.map It.d)),[.sh (iZ r).d]):=bX rfl (c1 _) j_
  have c:=pA (cT n) .no r fun x hx=>(h x hx).tx
  have j:=yz r (by omega)
  have ll:decide ((((r.map It.A).map pz).map PyData.str).length≤1000000)=true:=decide_eq_true (by simp only [List.length_map];omega)
  have fq:aZ (((r.map It.A).map pz).map PyData.str)=true:=pZ _
  have ee:(iZ r).A=r.flatMap It.A:=rfl
  rw [ee]
  generalize (r.flatMap It.A).toArray=u at j ⊢
  generalize ((r.map It.A).map pz).map PyData.str=q at c j ll fq
  generalize r.map It.d=ds at k c
  simp only [c0,cO,List.length_cons,List.length_nil,Nat.zero_add,cS,eM,aD,sf,gh,e_,iO,aI,List.map_cons,List.map_nil,Nat.sub_self,List.replicate,List.cons_append,List.nil_append,k,frz,Option.bind_some,fV,jS,c,fq,ll,Bool.and_true,if_true,look,Sl.val,j,Option.map_some,cr,ba,aO]
theorem yB {n:Nat} {x:It} {k:Int} (c:List Pc) (h:Tx n x) (hb:k.natAbs < 10 ^ 30) (hA:x.A.length≤300000):Tx (n+1) (jc x k c):=by
  have nl:=gP hb
  refine ⟨?_,by show (40::(x.A++41::fH k)).length≤_;simp only [List.length_cons,List.length_append];omega⟩
  have e3:cT (n+1) [(jc x k c).d]=c9 (cT n) [(jc x k c).d]:=oF
  rw [e3]
  have f1:bx ["Times"] "body" (ae 0) [.sh (jc x k c).d]=some (.sh x.d,[.sh (jc x k c).d]):=bX rfl (c1 _) j_
  have f2:bx ["Times"] "number" (ae 0) [.sh (jc x k c).d]=some (.sh (.int k),[.sh (jc x k c).d]):=bX rfl (c1 _) ((qD (by decide+kernel)).trans j_)
  have en:=gE k hb
  have et:=h.tx
  obtain ⟨L1,s1,h1⟩:∃L:List Nat,Str.ofString "("=⟨L.toArray⟩∧L=[40]:=⟨[40],by decide+kernel,rfl⟩
  obtain ⟨L2,s2,h2⟩:∃L:List Nat,Str.ofString ")"=⟨L.toArray⟩∧L=[41]:=⟨[41],by decide+kernel,rfl⟩
  have k1:(L1.length+x.A.length≤1000000)=True:=eq_true (by rw [h1];simp;omega)
  have k2:((L1++x.A).length+L2.length≤1000000)=True:=eq_true (by rw [h1,h2];simp;omega)
  have k3:((L1++x.A++L2).length+(fH k).length≤1000000)=True:=eq_true (by rw [h1,h2];simp;omega)
  have fin:(jc x k c).A=L1++x.A++L2++fH k:=by rw [h1,h2];show 40::(x.A++41::fH k)=_;simp
  rw [fin]
  simp only [c9,cO,List.length_cons,List.length_nil,Nat.zero_add,cS,eO,aD,ah,pC,s1,aI,List.map_cons,List.map_nil,Nat.sub_self,List.replicate,List.cons_append,List.nil_append,Sl.isBr,Bool.false_and,Bool.false_eq_true,a7,look,Sl.val,aC,hot,cm,if_false,Option.bind_some,f1,et,Option.map_some,Bool.not_false,Bool.true_or,Bool.and_true,bG,k1,gC,if_true,s2,k2,au,af,aq,f2,aF,en,k3,cr,ba,aO]
theorem yC {n:Nat} {x y:It} (h:Tx n x) (h':Tx n y) (hA:x.A.length+y.A.length≤300000):Tx (n+1) (di x y):=by
  refine ⟨?_,by show (91::(x.A++44::(y.A++[93]))).length≤_;simp only [List.length_cons,List.length_append,List.length_nil];omega⟩
  have e3:cT (n+1) [(di x y).d]=dw (cT n) [(di x y).d]:=oG
  rw [e3]
  have f1:bx ["Back"] "one" (ae 0) [.sh (di x y).d]=some (.sh x.d,[.sh (di x y).d]):=bX rfl (c1 _) j_
  have f2:bx ["Back"] "other" (ae 0) [.sh (di x y).d]=some (.sh y.d,[.sh (di x y).d]):=bX rfl (c1 _) ((qD (by decide+kernel)).trans j_)
  have e1:=h.tx
  have e2:=h'.tx
  obtain ⟨L1,s1,h1⟩:∃L:List Nat,Str.ofString "["=⟨L.toArray⟩∧L=[91]:=⟨[91],by decide+kernel,rfl⟩
  obtain ⟨L2,s2,h2⟩:∃L:List Nat,Str.ofString ","=⟨L.toArray⟩∧L=[44]:=⟨[44],by decide+kernel,rfl⟩
  obtain ⟨L3,s3,h3⟩:∃L:List Nat,Str.ofString "]"=⟨L.toArray⟩∧L=[93]:=⟨[93],by decide+kernel,rfl⟩
  have k1:(L1.length+x.A.length≤1000000)=True:=eq_true (by rw [h1];simp;omega)
  have k2:((L1++x.A).length+L2.length≤1000000)=True:=eq_true (by rw [h1,h2];simp;omega)
  have k3:((L1++x.A++L2).length+y.A.length≤1000000)=True:=eq_true (by rw [h1,h2];simp;omega)
  have k4:((L1++x.A++L2++y.A).length+L3.length≤1000000)=True:=eq_true (by rw [h1,h2,h3];simp;omega)
  have fin:(di x y).A=L1++x.A++L2++y.A++L3:=by rw [h1,h2,h3];show 91::(x.A++44::(y.A++[93]))=_;simp
  rw [fin]
  simp only [dw,cO,List.length_cons,List.length_nil,Nat.zero_add,cS,fv,aD,ah,pC,s1,aI,List.map_cons,List.map_nil,Nat.sub_self,List.replicate,List.cons_append,List.nil_append,Sl.isBr,Bool.false_and,Bool.false_eq_true,a7,look,Sl.val,aC,hot,cm,if_false,Option.bind_some,f1,e1,Option.map_some,Bool.not_false,Bool.true_or,Bool.and_true,bG,k1,gC,if_true,s2,k2,f2,e2,k3,s3,k4,cr,ba,aO]
def xH (c:List Pc):Prop:=∀p∈c,xG p.1
theorem j7 {c:List Pc} (h:xH c):xH (NH.contr c):=fun p hp=>by
  obtain ⟨q,hq,rfl⟩:=List.mem_map.mp (show p∈c.reverse.map (fun p=>((p.1,-p.2):Pc)) from hp)
  exact h q (List.mem_reverse.mp hq)
theorem yD {c:List Pc} (k:Int) (h:xH c):xH (rp c k):=by
  unfold rp
  split
  · intro p hp
    obtain ⟨l,hl,hpl⟩:=List.mem_flatten.mp hp
    rw [(List.mem_replicate.mp hl).2] at hpl
    exact j7 h p hpl
  · intro p hp
    obtain ⟨l,hl,hpl⟩:=List.mem_flatten.mp hp
    rw [(List.mem_replicate.mp hl).2] at hpl
    exact h p hpl
theorem tF {c:List Pc} (h:xH c):NailsOk c:=fun p hp=>by have:=h p hp;unfold xG at this;omega
theorem Ao {d:PyData} {z:Int} (h:Tk d z):p_ tab_is_Term d=some (.bool true):=by
  obtain ⟨⟨cn,kvs,rfl,hc,l⟩,_⟩:=h
  have e:p_ tab_is_Term (cR cn kvs)=(tab_is_Term.lookup cn).map PyData.bool:=rfl
  have k:tab_is_Term.lookup cn=some true:=by rcases hc with rfl | rfl | rfl | rfl <;> decide+kernel
  rw [e,k]
  rfl
theorem iz (s:Str):mS (.str s) (.str s)=some true:=by show some (decide (s=s))=_;rw [decide_eq_true rfl]
theorem yE (d:PyData) (c:List Pc) (W:Str) (M:Int) (t:Tk d M) (lc:c.length≤4000) (hl:(c.length:Int)=M) (e1:bU [d]=some (.ow (c.map aJ))) (e2:bT [d]=some (.sh (.str W))) (er:bW [.list (c.map aJ), .list (c.map aJ)]=some (.sh (.bool true))):ax [d, .list (c.map aJ), .str W]=some (.sh (.bool true)):=by
  have i:=Ao t
  have s:=t.sz
  have q:mS (.int M) (.int M)=some true:=by rw [bR,decide_eq_true rfl]
  have q2:=iz W
  have l1:(c.length≤1000000)=True:=eq_true (by omega)
  have l2:(c.length < 1000000)=True:=eq_true (by omega)
  simp only [ax,cO,List.length_cons,List.length_nil,Nat.zero_add,Nat.reduceAdd,cS,im,az,bn,eg,aW,b8,gh,ae,aI,List.map_cons,List.map_nil,Nat.reduceSub,List.replicate,List.cons_append,List.nil_append,List.getElem?_cons_zero,look,Sl.val,Option.bind_some,i,Option.map_some,gn,Bool.not_true,a7,ji,Ty.is,wD,dH,ah,Sl.isBr,Bool.false_and,Bool.false_eq_true,bB,af,aq,if_false,dX,fS,dD,s,List.getElem?_cons_succ,aF,List.length_map,hl,q,aD,pC,aM,aH,PL.settle,frz,frzAll,au,fm,dk,gQ,aL,bC,Nat.reduceLeDiff,if_true,gu,o7,e1,Nat.reduceLT,List.set_cons_succ,List.set_cons_zero,er,e2,q2,l2,cr,ba,aO]
structure Al (h:Nat) (x:It):Prop where
  co:∀n:Nat,Co (n+h) x
  tx:∀n:Nat,Tx (n+h) x
  lt:xH x.c
theorem Al.is {h:Nat} {x:It} (a:Al h x) (hh:h≤33) (hz:x.z≤4000):ax [x.d, .list (x.c.map aJ), .str ⟨x.A.toArray⟩]=some (.sh (.bool true)):=by
  have C:=a.co (33 - h)
  have T:=a.tx (33 - h)
  rw [show 33 - h+h=33 by omega] at C T
  obtain ⟨e1,e2⟩:=C.co hz
  exact yE x.d x.c _ x.z C.tk (by omega) e2 e1 T.tx (mz x.c (tF a.lt) (by omega))
theorem Al.up {h j:Nat} {x:It} (a:Al h x) (l:h≤j):Al j x:=⟨fun n=>by have:=a.co (n+(j - h));rwa [show n+(j - h)+h=n+j by omega] at this,fun n=>by have:=a.tx (n+(j - h));rwa [show n+(j - h)+h=n+j by omega] at this,a.lt⟩
theorem vG {p:Pc} (h:xG p.1) (hb:p.2.natAbs < 10 ^ 30):Al 1 (oI p):=⟨fun n=>yu n p,fun n=>yy n hb,fun q hq=>by rw [List.mem_singleton.mp hq];exact h⟩
theorem tI {h:Nat} {r:List It} (a:∀x∈r,Al h x) (hl:r.length≤1000) (hA:(r.flatMap It.A).length≤400000):Al (h+1) (iZ r):=⟨fun n=>yw fun x hx=>(a x hx).co n,fun n=>yA (fun x hx=>(a x hx).tx n) hl hA,fun p hp=>by
  obtain ⟨x,hx,hpx⟩:=List.mem_flatMap.mp hp
  exact (a x hx).lt p hpx⟩
theorem vH {h:Nat} {x:It} {k:Int} (a:Al h x) (hb:k.natAbs < 10 ^ 30) (hA:x.A.length≤300000):Al (h+1) (jc x k (rp x.c k)):=⟨fun n=>vF (a.co n) fun _=>rfl,fun n=>yB _ (a.tx n) hb hA,yD k a.lt⟩
theorem yF {h:Nat} {x y:It} (a:Al h x) (b:Al h y) (hA:x.A.length+y.A.length≤300000):Al (h+1) (di x y):=⟨fun n=>yx (a.co n) (b.co n),fun n=>yC (a.tx n) (b.tx n) hA,fun p hp=>by
  have hp:p∈x.c++y.c++NH.contr x.c++NH.contr y.c:=hp
  simp only [List.mem_append] at hp
  rcases hp with ((hp | hp) | hp) | hp
  · exact a.lt p hp
  · exact b.lt p hp
  · exact j7 a.lt p hp
  · exact j7 b.lt p hp⟩
theorem yG:List.lookup ("TooLong":Str) [(("TooLong":Str),false)]=some false:=by decide+kernel
theorem w_:List.lookup ("TooLong":Str) [(("TooLong":Str),true)]=some true:=by decide+kernel
theorem je {d:PyData} {M:Int} (t:Tk d M) (h:4000 < M):aU [d, .int M]=some (.sh (.bool true)):=by
  have e:=tw t h
  have s:=t.sz
  have q:mS (.int M) (.int M)=some true:=by rw [bR,decide_eq_true rfl]
  have r:nu dL (ae 0) [.sh d, .sh (.int M), .no, .no]=some (("TooLong":Str),([.sh d, .sh (.int M), .no, .no]:List Sl)):=by
    simp only [nu,ae,List.getElem?_cons_zero,look,Sl.val,Option.bind_some,e,Option.map_some]
  simp only [aU,cO,List.length_cons,List.length_nil,Nat.zero_add,Nat.reduceAdd,cS,dz,az,bn,dH,ah,a7,ae,aI,List.map_cons,List.map_nil,Nat.reduceSub,List.replicate,List.cons_append,List.nil_append,List.getElem?_cons_zero,look,Sl.val,Option.bind_some,s,Option.map_some,Sl.isBr,Bool.false_and,Bool.false_eq_true,fS,dD,if_false,List.getElem?_cons_succ,q,Bool.not_true,aD,pC,aM,uW,fm,List.mem_cons,List.not_mem_nil,or_false,aH,b9,aL,gh,wV,l_,g8,frz,g9,gw,bC,PL.settle,frzAll,gu,gy,sQ,if_true,r,Nat.reduceLT,true_and,List.set_cons_succ,List.set_cons_zero,yG,Nat.reduceLeDiff,w_,ie,List.contains_cons,List.contains_nil,Bool.or_false,cr,ba,aO]
  rfl
abbrev vI (d:PyData) (k z:Int):PyData:=cR "Times" [(.str "body",d),(.str "number", .int k),(.str "size", .int z)]
abbrev Ap (d e:PyData) (z:Int):PyData:=cR "Back" [(.str "one",d),(.str "other",e),(.str "size", .int z)]
theorem tJ (d:PyData) (z cell:Int) (hf:aO d=true) (hz:nK ai d=some z) (hm:bz z (ay 100000000000000000000)=true) (e:bU [vI d 100000000000000000000 (z*ay 100000000000000000000)]=some (.ow [])):aY [d, .int 0, .int cell]=some (.sh (.bool true)):=by
  have q:mS (.list []) (.list [])=some true:=rfl
  simp only [aY,cO,List.length_cons,List.length_nil,Nat.zero_add,Nat.reduceAdd,cS,fg,az,bn,dH,ah,ae,aI,List.map_cons,List.map_nil,Nat.reduceSub,List.replicate,List.cons_append,List.nil_append,List.getElem?_cons_succ,List.getElem?_cons_zero,Sl.isBr,Bool.false_and,Bool.false_eq_true,pC,o7,dD,look,Sl.val,Option.bind_some,if_false,bR,decide_true,Option.map_some,aD,a7,bg,af,hW,j9,Int.reducePow,Int.reduceNeg,Int.reduceLE,Int.reduceLT,and_self,Int.reduceToNat,if_true,aq,bA,b9,bC,Nat.reduceLeDiff,aM,aF,hz,hf,Bool.true_and,hm,e,q,aH,e8,aC,hot,cm,Bool.not_false,Bool.true_or,Bool.and_true,fj,PL.settle,frz,frzAll,aW,b8,au,dE,dF,gu,bB,dX,cr,ba,aO]
theorem tK (d d1:PyData) (z m cell q q2 r t u:Int) (c:List Pc) (hf:aO d=true) (hz:nK ai d=some z) (m0:(m=0)=False) (dm:gr m=true) (hq:4000 / m=q) (hq2:2000 / m=q2) (hr:cell % 100000000000000000000=r) (ht:q+1+r=t) (hu:0 - t=u)
    (k1:bz z (ay u)=true) (k2:bz m t=true) (e1:aU [vI d u (z*ay u), .int (m*t)]=some (.sh (.bool true)))
    (k3:bz z (ay (q2+1))=true) (hd1:vI d (q2+1) (z*ay (q2+1))=d1) (f1:aO d1=true) (s1:nK ai d1=some (z*ay (q2+1))) (fp:aO (cP (122,2))=true) (sp:nK ai (cP (122,2))=some 1) (k4:bz (2*m) (q2+1)=true) (k5:bz 2 m=true)
    (e2:aU [Ap d1 (cP (122,2)) (2*(z*ay (q2+1)+1)), .int (2*m*(q2+1)+2)]=some (.sh (.bool true)))
    (k6:bz z (ay t)=true) (k7:bz (z*ay t) (ay 0)=true) (f2:aO (vI d t (z*ay t))=true) (s2:nK ai (vI d t (z*ay t))=some (z*ay t)) (e3:bU [vI (vI d t (z*ay t)) 0 (z*ay t*ay 0)]=some (.ow []))
    (k8:bz z (ay q)=true) (e4:bU [vI d q (z*ay q)]=some (.ow (c.map aJ))) (lc:(c.length≤1000000)=True) (hc:(c.length:Int)=q*m) (k9:bz q m=true):aY [d, .int m, .int cell]=some (.sh (.bool true)):=by
  have q0:mS (.list []) (.list [])=some true:=rfl
  have q1:mS (.int (q*m)) (.int (q*m))=some true:=by rw [bR,decide_eq_true rfl]
  have sz:Str.ofString "z"=⟨#[122]⟩:=by decide+kernel
  unfold cP at fp sp e2
  simp only [aO] at fp f2
  simp only [aY,cO,List.length_cons,List.length_nil,Nat.zero_add,Nat.reduceAdd,cS,fg,az,bn,dH,ah,ae,aI,List.map_cons,List.map_nil,Nat.reduceSub,List.replicate,List.cons_append,List.nil_append,List.getElem?_cons_succ,List.getElem?_cons_zero,Sl.isBr,Bool.false_and,Bool.false_eq_true,pC,o7,dD,look,Sl.val,Option.bind_some,if_false,bR,m0,decide_false,Option.map_some,aD,a7,bg,af,hW,j9,Int.reducePow,Int.reduceNeg,Int.reduceLE,Int.reduceLT,and_self,decide_true,Int.reduceToNat,if_true,aq,bA,b9,bC,Nat.reduceLeDiff,aM,aF,hz,hf,Bool.true_and,aH,e8,aC,hot,cm,Bool.not_false,Bool.true_or,Bool.and_true,fj,PL.settle,frz,frzAll,aW,b8,au,dE,dF,sz,cJ,fb,gu,bB,dX,dm,hq,hr,ht,Nat.reduceLT,List.set_cons_succ,List.set_cons_zero,hu,k1,k2,e1,gn,Bool.not_true,hq2,k3,hd1,s1,sp,f1,aO,fp,k5,k4,e2,k6,s2,f2,k7,e3,q0,k8,e4,List.length_map,hc,k9,q1,cr,ba]
theorem xa {k:Int} (h:0≤k):ay k=k:=if_neg (by omega)
theorem u8 {h:Nat} {x:It} (a:Al h x) (hh:h≤30) (z6:x.z≤6) (cell:Int):aY [x.d, .int x.z, .int cell]=some (.sh (.bool true)):=by
  have C:=a.co 0
  have z0:=C.nn
  have tk:=C.tk
  have hf:=tk.fl
  have kz:∀k,bz x.z k=true:=fun k=>dq (by omega) (by omega)
  by_cases e0:x.z=0
  · rw [show aY [x.d, .int x.z, .int cell]=aY [x.d, .int 0, .int cell] by rw [e0]]
    refine tJ x.d x.z cell hf (gd tk) (kz _) (mC (?_:Tk (iY x.d 100000000000000000000 _) 0))
    have:=lq 100000000000000000000 (x.z*ay 100000000000000000000) hf
    rw [e0,Int.zero_mul] at this ⊢
    exact this
  obtain ⟨q,hq⟩:∃q,4000 / x.z=q:=⟨_,rfl⟩
  obtain ⟨q2,hq2⟩:∃q,2000 / x.z=q:=⟨_,rfl⟩
  obtain ⟨r,hr⟩:∃r,cell % 100000000000000000000=r:=⟨_,rfl⟩
  have r0:=Int.emod_nonneg cell (show (100000000000000000000:Int)≠0 by decide)
  have r1:=Int.emod_lt_of_pos cell (show (0:Int) < 100000000000000000000 by decide)
  rw [hr] at r0 r1
  have q0:0≤q:=hq▸Int.ediv_nonneg (by decide) z0
  have q20:0≤q2:=hq2▸Int.ediv_nonneg (by decide) z0
  have q4:q≤4000:=hq▸Int.ediv_le_self x.z (by decide)
  have l1:4000 < (q+1)*x.z:=hq▸Int.lt_ediv_add_one_mul_self 4000 (by omega)
  have l2:2000 < (q2+1)*x.z:=hq2▸Int.lt_ediv_add_one_mul_self 2000 (by omega)
  have l3:q*x.z≤4000:=hq▸Int.ediv_mul_le 4000 e0
  obtain ⟨t,ht⟩:∃t,q+1+r=t:=⟨_,rfl⟩
  obtain ⟨u,hu⟩:∃u,0 - t=u:=⟨_,rfl⟩
  have ua:ay u=t:=by unfold ay;rw [if_pos (by omega)];omega
  have ta:ay t=t:=xa (by omega)
  have qa:ay q=q:=xa q0
  have q2a:ay (q2+1)=q2+1:=xa (by omega)
  have big1:4000 < x.z*t:=by
    have:(q+1)*x.z≤t*x.z:=Int.mul_le_mul_of_nonneg_right (by omega) z0
    rw [Int.mul_comm x.z t]
    omega
  have big2:4000 < 2*(x.z*(q2+1)+1):=by
    rw [Int.mul_comm x.z]
    omega
  have C4:Co 33 (jc x q (rp x.c q)):=by
    have:=vF (k:=q) (c:=rp x.c q) (a.co (32 - h)) fun _=>rfl
    rwa [show 32 - h+h+1=33 by omega] at this
  have z4:(jc x q (rp x.c q)).z=q*x.z:=by show x.z*ay q=_;rw [qa,Int.mul_comm]
  obtain ⟨e4,n4⟩:=C4.co (by rw [z4];exact l3)
  have n4:((rp x.c q).length:Int)=q*x.z:=z4▸n4
  have tu:=lq u (x.z*ay u) hf
  have t2:=lq (q2+1) (x.z*ay (q2+1)) hf
  have t3:=lq t (x.z*ay t) hf
  have tp:=tj (122,2)
  have tb:=vE (2*(x.z*ay (q2+1)+1)) t2.fl tp.fl
  have t4:=lq 0 (x.z*ay t*ay 0) t3.fl
  refine tK x.d _ x.z x.z cell q q2 r t u (rp x.c q) hf (gd tk) (eq_false e0) (ii (by omega) (by omega)) hq hq2 hr ht hu (kz _) (kz _) ?_ (kz _) rfl t2.fl (gd t2) tp.fl (gd tp) (dq (by omega) (by omega)) (dq (by decide) (by decide)) ?_ (kz _) ?_ t3.fl (gd t3) ?_ (kz _) e4 (eq_true (by omega)) n4 (dq (by omega) (by omega))
  · have:=je tu (by rw [ua];exact big1)
    rw [ua] at this ⊢
    exact this
  · have:=je tb (by rw [q2a];exact big2)
    rw [q2a] at this ⊢
    rw [show 2*x.z*(q2+1)+2=2*(x.z*(q2+1)+1) by rw [Int.mul_assoc];omega]
    exact this
  · exact pd (by decide) (by decide)
  · refine mC (?_:Tk (iY (iY x.d t (x.z*ay t)) 0 (x.z*ay t*ay 0)) 0)
    have e:x.z*ay t*ay 0=0:=by rw [show ay 0=0 from rfl,Int.mul_zero]
    rw [e] at t4 ⊢
    exact t4
theorem u9 (x0 x1 a b:Sl) (p:Pc) (W:Str) (hp:p.1 < 128) (et:aR [.list [aJ p]]=some (.sh (.str W))) (ei:ax [cP p, .list [aJ p], .str W]=some (.sh (.bool true))):(bZ (.tuple [cP p,aJ p]) [x0,x1,a,b]).bind b5=some ([x0,x1, .sh (cP p), .sh (aJ p)], .nx):=by
  have q:=sV hp hp
  rw [decide_eq_true rfl] at q
  have f1:bx ["Piece"] "nail" (ae 2) [x0,x1, .sh (cP p), .sh (aJ p)]=some (.sh (.str ⟨#[p.1]⟩),[x0,x1, .sh (cP p), .sh (aJ p)]):=bX rfl (c1 _) j_
  have f2:bx ["Piece"] "turns" (ae 2) [x0,x1, .sh (cP p), .sh (aJ p)]=some (.sh (.int p.2),[x0,x1, .sh (cP p), .sh (aJ p)]):=bX rfl (c1 _) ((qD (by decide+kernel)).trans j_)
  have et0:bZ (.tuple [cP p,aJ p]) [x0,x1,a,b]=some [x0,x1, .sh (cP p), .sh (aJ p)]:=rfl
  have fp:aO (aJ p)=true:=rfl
  have q':mS (.tuple [.str ⟨#[p.1]⟩, .int p.2]) (aJ p)=some true:=q
  rw [et0]
  generalize aJ p=u at *
  generalize cP p=v at *
  simp only [b5,fS,Option.bind_some,bn,eg,dH,ah,gQ,aL,f1,frz,bC,Option.map_some,f2,List.length_cons,List.length_nil,Nat.zero_add,Nat.reduceAdd,Nat.reduceLeDiff,if_true,Sl.isBr,Bool.false_and,Bool.false_eq_true,ae,dD,look,Sl.val,if_false,List.getElem?_cons_succ,List.getElem?_cons_zero,q',Bool.not_true,aW,b8,au,af,b9,aq,aF,et,ei,gn,aD,pC,aM]
theorem pB (x0 x1:Sl):∀(r:List Pc) (a b:Sl),(∀p∈r,xG p.1∧p.2.natAbs < 10 ^ 30)→∃a' b',dl bZ b5 (gR (r.map cP) (r.map aJ)) [x0,x1,a,b]=some ([x0,x1,a',b'], .nx)
  | [],a,b,_=>⟨a,b,rfl⟩
  | p::r,a,b,h=>by
    obtain ⟨h1,h2⟩:=h p (List.mem_cons_self ..)
    have et:=gD [p] (fun q hq=>by rw [List.mem_singleton.mp hq];exact h2) (by simp)
    have ei:=(vG h1 h2).is (by decide) (by show (1:Int)≤4000;decide)
    have ei':ax [cP p, .list [aJ p], .str ⟨(nM p).toArray⟩]=some (.sh (.bool true)):=ei
    have tt:jb [p]=nM p:=by show nM p++[]=_;simp
    rw [tt] at et
    have st:=u9 x0 x1 a b p _ (by have:=h1.2;omega) et ei'
    obtain ⟨a',b',ih⟩:=pB x0 x1 r (.sh (cP p)) (.sh (aJ p)) fun q hq=>h q (List.mem_cons_of_mem _ hq)
    refine ⟨a',b',?_⟩
    rw [List.map_cons,List.map_cons,gR,dl,st]
    exact ih
theorem u_ (r:List Pc) (h:∀p∈r,xG p.1∧p.2.natAbs < 10 ^ 30):bv [.list (r.map cP), .list (r.map aJ)]=some (.sh (.bool true)):=by
  obtain ⟨a,b,e⟩:=pB (.sh (.list (r.map cP))) (.sh (.list (r.map aJ))) r .no .no h
  simp only [bv,cO,List.length_cons,List.length_nil,Nat.zero_add,Nat.reduceAdd,cS,dR,az,h7,m8,ae,aI,List.map_cons,List.map_nil,Nat.reduceSub,List.replicate,List.cons_append,List.nil_append,List.getElem?_cons_zero,frz,Option.bind_some,List.getElem?_cons_succ,e,aD,pC,cr,ba,aO,if_true]
theorem bc {f g:bP} {E E1:List Sl} (h:f E=some (E1, .nx)):az f g E=g E1:=by
  unfold az
  rw [h]
  rfl
def yY:bP:=(aH 1 (ah fi false (b9 (aL (pC (.int 3)) (aL (ah dE false (ah hW false (pC (.int 10)) (pC (.int 30))) (pC (.int 1))) bC))) (ah fj false (ah e8 false (au bh (af false (ae 0) (af false (pC (.int 0)) aq))) (pC (.int 2))) (pC (.int 2)))))
def zC:bP:=(aH 2 (au aX (af false (au bh (af false (ae 0) (af false (pC (.int 1)) aq))) (af false (pC (.str "abcdefghijklmnopqrstuvwxyz")) (af false (ae 1) (af false (pC (.int 6)) aq))))))
def zD:bP:=(aH 3 (au aX (af false (au bh (af false (ae 0) (af false (pC (.int 2)) aq))) (af false (pC (.str "zyxwvutsrqponmlkjihgfedcba")) (af false (ae 1) (af false (pC (.int 6)) aq))))))
def zE:bP:=(aH 4 (ah dE false (ah fj false (au bh (af false (ae 0) (af false (pC (.int 3)) aq))) (pC (.int 11))) (pC (.int 5))))
def zF:bP:=(aH 5 (e_ [none,none] (iO (ae 2)) fL dY fM))
def zG:bP:=(bn (aW (b8 (au bv (af false (ae 5) (af false (ae 2) aq)))))
  (aD (pC (.bool false)))
  aM)
def zH:bP:=(aH 6 (bg "Parts" (bo ai) (af false (ae 5) aq)))
def zI:bP:=(fm (dk 5 (bg "Piece" cJ (af false (pC (.str "q")) (af false (pC (.int 7)) aq)))))
def zJ:bP:=(aH 7 (bg "Parts" (bo ai) (af false (e_ [none,none] (iO (ae 3)) io dY ip) aq)))
def zK:bP:=(aH 8 (b9 (aL (au aR (af false (ae 2) aq)) (aL (au aR (af false (ae 3) aq)) bC))))
def xb:bP:=(bn (eg (dH (ah fS false (jV ["Parts"] "parts" (ae 6)) (bB dX (af false (ae 2) aq)))) (aW (b8 (au ax (af false (ae 6) (af false (ae 2) (af false (ah fi false (ae 8) (pC (.int 0))) aq)))))))
  (aD (pC (.bool false)))
  aM)
def xc:bP:=(bn (aW (b8 (au ax (af false (ae 7) (af false (ae 3) (af false (ah fi false (ae 8) (pC (.int 1))) aq))))))
  (aD (pC (.bool false)))
  aM)
def xf:bP:=(aH 9 (bg "Times" (bA ai) (af false (ae 6) (af false (ae 4) aq))))
def va:bP:=(aH 10 (ah gl false (bB fc (af false (ae 4) aq)) (bB iR (af false (ah fS false (ae 4) (pC (.int 1))) aq))))
def xg:bP:=(bn (eg (dH (ah fS false (bx ["Times"] "number" (ae 9)) (ae 4))) (dH (ah fS false (a7 bT (bx ["Times"] "body" (ae 9))) (ah fi false (ae 8) (pC (.int 0))))))
  (aD (pC (.bool false)))
  aM)
def xh:bP:=(bn (aW (b8 (au ax (af false (ae 9) (af false (au aB (af false (ae 2) (af false (ae 4) aq))) (af false (ah aC false (ah aC false (ah aC false (pC (.str "(")) (ah fi false (ae 8) (pC (.int 0)))) (pC (.str ")"))) (ae 10)) aq))))))
  (aD (pC (.bool false)))
  aM)
def xi:bP:=(aH 11 (bg "Back" (fb ai) (af false (ae 6) (af false (ae 7) aq))))
def xj:bP:=(aH 12 (ah aC false (ah aC false (ah aC false (ae 2) (ae 3)) (au aN (af false (ae 2) aq))) (au aN (af false (ae 3) aq))))
def xk:bP:=(aH 13 (ah aC false (ah aC false (ah aC false (ah aC false (pC (.str "[")) (ah fi false (ae 8) (pC (.int 0)))) (pC (.str ","))) (ah fi false (ae 8) (pC (.int 1)))) (pC (.str "]"))))
def xm:bP:=(bn (eg (dH (ah fS false (a7 bT (bx ["Back"] "one" (ae 11))) (ah fi false (ae 8) (pC (.int 0))))) (eg (dH (ah fS false (a7 bT (bx ["Back"] "other" (ae 11))) (ah fi false (ae 8) (pC (.int 1))))) (aW (b8 (au ax (af false (ae 11) (af false (ae 12) (af false (ae 13) aq))))))))
  (aD (pC (.bool false)))
  aM)
def xn:bP:=(aH 14 (bg "Times" (bA ai) (af false (ae 11) (af false (ah dE false (pC (.int 0)) (ae 4)) aq))))
def vb:bP:=(aH 15 (ah gl false (bB fc (af false (ah dE false (pC (.int 0)) (ae 4)) aq)) (bB iR (af false (ah fS false (ae 4) (gh gs (pC (.int 1)))) aq))))
def xo:bP:=(bn (aW (b8 (au ax (af false (ae 14) (af false (au aB (af false (ae 12) (af false (ah dE false (pC (.int 0)) (ae 4)) aq))) (af false (ah aC false (ah aC false (ah aC false (pC (.str "(")) (ae 13)) (pC (.str ")"))) (ae 15)) aq))))))
  (aD (pC (.bool false)))
  aM)
def xp:bP:=(aH 16 (bg "Parts" (bo ai) (af false (b9 (aL (ae 7) (aL (ae 9) (aL (ae 14) (aL (ae 6) bC))))) aq)))
def xq:bP:=(aH 17 (ah aC false (ah aC false (ah aC false (ae 3) (au aB (af false (ae 2) (af false (ae 4) aq)))) (au aB (af false (ae 12) (af false (ah dE false (pC (.int 0)) (ae 4)) aq)))) (ae 2)))
def xr:bP:=(aH 12 (ah aC false (ah aC false (ah aC false (ah aC false (ah fi false (ae 8) (pC (.int 1))) (pC (.str "("))) (ah fi false (ae 8) (pC (.int 0)))) (pC (.str ")"))) (ae 10)))
def xu:bP:=(aH 12 (ah aC false (ah aC false (ah aC false (ah aC false (ah aC false (ae 12) (pC (.str "("))) (ae 13)) (pC (.str ")"))) (ae 15)) (ah fi false (ae 8) (pC (.int 0)))))
def xv:bP:=(bn (aW (b8 (au aY (af false (ae 6) (af false (bB dX (af false (ae 2) aq)) (af false (au bh (af false (ae 0) (af false (pC (.int 4)) aq))) aq))))))
  (aD (pC (.bool false)))
  aM)
def xw:bP:=(aD (gu (au ax (af false (ae 16) (af false (ae 17) (af false (ae 12) aq)))) (au ax (af false (bg "Parts" (bo ai) (af false (b9 bC) aq)) (af false (b9 bC) (af false (pC (.str "")) aq))))))
theorem tL:lj=az yY (az zC (az zD (az zE (az zF (az zG (az zH (az zI (az zJ (az zK (az xb (az xc (az xf (az va (az xg (az xh (az xi (az xj (az xk (az xm (az xn (az vb (az xo (az xp (az xq (az xr (az xu (az xv xw))))))))))))))))))))))))))):=rfl
def SL (ns:List Int):Sl:= .sh (.list (ns.map .int))
theorem tM (x0 x1:Sl):∀r:List Pc,fo fL dY fM (r.map aJ) [x0,x1]=some (r.map cP)
  | []=>rfl
  | p::r=>by
    have e:fL (aJ p) [x0,x1]=some [.sh (.str ⟨#[p.1]⟩), .sh (.int p.2)]:=rfl
    have e2:fM [.sh (.str ⟨#[p.1]⟩), .sh (.int p.2)]=some (.sh (cP p),[.sh (.str ⟨#[p.1]⟩), .sh (.int p.2)]):=rfl
    have ih:=tM (.sh (.str ⟨#[p.1]⟩)) (.sh (.int p.2)) r
    rw [List.map_cons,fo,e,Option.bind_some]
    simp only [dY,frz,Option.bind_some,e2,ih,Option.map_some,if_true,List.map_cons]
theorem C1_eq:io=fL∧ip=fM:=⟨rfl,rfl⟩
theorem j8:∀r:List Pc,aZ (r.map cP)=true
  | []=>rfl
  | p::r=>by rw [List.map_cons,aZ,show aO (cP p)=true from rfl,j8 r];rfl
theorem l1 (ns:List Int) (x2 x3 x4 x5 x6 x7 x8 x9 x10 x11 x12 x13 x14 x15 x16 x17:Sl) (c:List Pc) (W:Int) (e:aX [.int (ns.getD 1 0), .str "abcdefghijklmnopqrstuvwxyz", .int W, .int 6]=some (.ow (c.map aJ))):zC [SL ns, .sh (.int W),x2,x3,x4,x5,x6,x7,x8,x9,x10,x11,x12,x13,x14,x15,x16,x17]=some ([SL ns, .sh (.int W), .ow (c.map aJ),x3,x4,x5,x6,x7,x8,x9,x10,x11,x12,x13,x14,x15,x16,x17], .nx):=by
  have a:=fN ns 1
  rw [show ((1:Nat):Int)=1 from rfl] at a
  simp only [zC,aH,au,af,ae,SL,List.getElem?_cons_zero,Sl.isBr,Bool.false_and,Bool.false_eq_true,pC,aq,Option.map_some,if_false,Option.bind_some,aF,look,Sl.val,a,List.getElem?_cons_succ,e,PL.settle,frz,frzAll,List.length_cons,List.length_nil,Nat.zero_add,Nat.reduceAdd,Nat.reduceLT,List.set_cons_succ,List.set_cons_zero,if_true]
theorem l2 (ns:List Int) (x2 x3 x4 x5 x6 x7 x8 x9 x10 x11 x12 x13 x14 x15 x16 x17:Sl) (c:List Pc) (W:Int) (e:aX [.int (ns.getD 2 0), .str "zyxwvutsrqponmlkjihgfedcba", .int W, .int 6]=some (.ow (c.map aJ))):zD [SL ns, .sh (.int W),x2,x3,x4,x5,x6,x7,x8,x9,x10,x11,x12,x13,x14,x15,x16,x17]=some ([SL ns, .sh (.int W),x2, .ow (c.map aJ),x4,x5,x6,x7,x8,x9,x10,x11,x12,x13,x14,x15,x16,x17], .nx):=by
  have a:=fN ns 2
  rw [show ((2:Nat):Int)=2 from rfl] at a
  simp only [zD,aH,au,af,ae,SL,List.getElem?_cons_zero,Sl.isBr,Bool.false_and,Bool.false_eq_true,pC,aq,Option.map_some,if_false,Option.bind_some,aF,look,Sl.val,a,List.getElem?_cons_succ,e,PL.settle,frz,frzAll,List.length_cons,List.length_nil,Nat.zero_add,Nat.reduceAdd,Nat.reduceLT,List.set_cons_succ,List.set_cons_zero,if_true]
theorem l3 (ns:List Int) (x1 x2 x3 x4 x5 x6 x7 x8 x9 x10 x11 x12 x13 x14 x15 x16 x17:Sl):zE [SL ns,x1,x2,x3,x4,x5,x6,x7,x8,x9,x10,x11,x12,x13,x14,x15,x16,x17]=some ([SL ns,x1,x2,x3, .sh (.int (ns.getD 3 0 % 11 - 5)),x5,x6,x7,x8,x9,x10,x11,x12,x13,x14,x15,x16,x17], .nx):=by
  have a:=fN ns 3
  rw [show ((3:Nat):Int)=3 from rfl] at a
  simp only [zE,aH,ah,au,af,ae,SL,List.getElem?_cons_zero,Sl.isBr,Bool.false_and,Bool.false_eq_true,pC,aq,Option.map_some,if_false,Option.bind_some,aF,look,Sl.val,a,fj,dD,j9,Int.reduceLT,decide_true,if_true,dE,PL.settle,frz,frzAll,List.length_cons,List.length_nil,Nat.zero_add,Nat.reduceAdd,Nat.reduceLT,List.set_cons_succ,List.set_cons_zero]
theorem l4 (ns:List Int) (x1 x3 x4 x5 x6 x7 x8 x9 x10 x11 x12 x13 x14 x15 x16 x17:Sl) (c:List Pc) (lc:c.length≤1000):zF [SL ns,x1, .ow (c.map aJ),x3,x4,x5,x6,x7,x8,x9,x10,x11,x12,x13,x14,x15,x16,x17]=some ([SL ns,x1, .sh (.list (c.map aJ)),x3,x4, .ow (c.map cP),x6,x7,x8,x9,x10,x11,x12,x13,x14,x15,x16,x17], .nx):=by
  have k:=tM .no .no c
  have ll:decide ((c.map cP).length≤1000000)=true:=decide_eq_true (by rw [List.length_map];omega)
  have ff:=j8 c
  generalize c.map cP=q at k ll ff ⊢
  simp only [zF,aH,e_,iO,ae,SL,List.getElem?_cons_succ,List.getElem?_cons_zero,frz,Option.bind_some,List.set_cons_succ,List.set_cons_zero,fV,List.map_cons,jS,List.map_nil,k,ff,ll,Bool.and_true,if_true,PL.settle,frzAll,List.length_cons,List.length_nil,Nat.zero_add,Nat.reduceAdd,Nat.reduceLT]
theorem l5 (ns:List Int) (x1 x3 x4 x6 x7 x8 x9 x10 x11 x12 x13 x14 x15 x16 x17:Sl) (c:List Pc) (h:bv [.list (c.map cP), .list (c.map aJ)]=some (.sh (.bool true))):zG [SL ns,x1, .sh (.list (c.map aJ)),x3,x4, .ow (c.map cP),x6,x7,x8,x9,x10,x11,x12,x13,x14,x15,x16,x17]=some ([SL ns,x1, .sh (.list (c.map aJ)),x3,x4, .ow (c.map cP),x6,x7,x8,x9,x10,x11,x12,x13,x14,x15,x16,x17], .nx):=by
  simp only [zG,bn,aW,b8,au,af,ae,SL,List.getElem?_cons_succ,List.getElem?_cons_zero,Sl.isBr,Bool.false_and,Bool.false_eq_true,aq,Option.map_some,if_false,Option.bind_some,aF,look,Sl.val,h,gn,Bool.not_true,aD,pC,aM]
theorem l6 (ns:List Int) (x1 x2 x3 x4 x6 x7 x8 x9 x10 x11 x12 x13 x14 x15 x16 x17:Sl) (c:List Pc) (z:Int) (h:bo ai [.list (c.map cP)]=some [(.str "kept", .tuple (c.map cP)),(.str "size", .int z),(.tuple [.str "parts"], .int (c.map cP).length)]):zH [SL ns,x1,x2,x3,x4, .ow (c.map cP),x6,x7,x8,x9,x10,x11,x12,x13,x14,x15,x16,x17]=some ([SL ns,x1,x2,x3,x4, .ow (c.map cP), .sh (td (c.map cP) z),x7,x8,x9,x10,x11,x12,x13,x14,x15,x16,x17], .nx):=by
  simp only [zH,aH,bg,af,ae,SL,List.getElem?_cons_succ,List.getElem?_cons_zero,Sl.isBr,Bool.false_and,Bool.false_eq_true,aq,Option.map_some,if_false,Option.bind_some,aF,look,Sl.val,h,PL.settle,frz,frzAll,List.length_cons,List.length_nil,Nat.zero_add,Nat.reduceAdd,Nat.reduceLT,List.set_cons_succ,List.set_cons_zero,if_true,td]
theorem l7 (ns:List Int) (x1 x2 x3 x4 x6 x7 x8 x9 x10 x11 x12 x13 x14 x15 x16 x17:Sl) (q:List PyData) (h:(q.length < 1000000)=True):zI [SL ns,x1,x2,x3,x4, .ow q,x6,x7,x8,x9,x10,x11,x12,x13,x14,x15,x16,x17]=some ([SL ns,x1,x2,x3,x4, .ow (q++[cP (113,7)]),x6,x7,x8,x9,x10,x11,x12,x13,x14,x15,x16,x17], .nx):=by
  have sq:Str.ofString "q"=⟨#[113]⟩:=by decide+kernel
  simp only [zI,fm,dk,SL,List.getElem?_cons_succ,List.getElem?_cons_zero,bg,af,pC,sq,Sl.isBr,Bool.false_and,Bool.false_eq_true,aq,Option.map_some,if_false,Option.bind_some,cJ,aF,look,Sl.val,frz,h,List.set_cons_succ,List.set_cons_zero,if_true,cP]
theorem l8 (ns:List Int) (x1 x2 x4 x5 x6 x7 x8 x9 x10 x11 x12 x13 x14 x15 x16 x17:Sl) (e:List Pc) (le:e.length≤1000) (z:Int) (h:bo ai [.list (e.map cP)]=some [(.str "kept", .tuple (e.map cP)),(.str "size", .int z),(.tuple [.str "parts"], .int (e.map cP).length)]):zJ [SL ns,x1,x2, .ow (e.map aJ),x4,x5,x6,x7,x8,x9,x10,x11,x12,x13,x14,x15,x16,x17]=some ([SL ns,x1,x2, .sh (.list (e.map aJ)),x4,x5,x6, .sh (td (e.map cP) z),x8,x9,x10,x11,x12,x13,x14,x15,x16,x17], .nx):=by
  have k:=tM .no .no e
  have ll:decide ((e.map cP).length≤1000000)=true:=decide_eq_true (by rw [List.length_map];omega)
  have ff:=j8 e
  generalize e.map cP=q at k ll ff h ⊢
  simp only [zJ,aH,bg,af,e_,iO,ae,SL,List.getElem?_cons_succ,List.getElem?_cons_zero,frz,Option.bind_some,List.set_cons_succ,List.set_cons_zero,C1_eq.1,C1_eq.2,fV,List.map_cons,jS,List.map_nil,k,ff,ll,Bool.and_true,if_true,Sl.isBr,Bool.false_and,Bool.false_eq_true,aq,Option.map_some,if_false,aF,look,Sl.val,h,PL.settle,frzAll,List.length_cons,List.length_nil,Nat.zero_add,Nat.reduceAdd,Nat.reduceLT,td]
theorem l9 (ns:List Int) (x1 x4 x5 x6 x7 x8 x9 x10 x11 x12 x13 x14 x15 x16 x17:Sl) (c e:List Pc) (A B:Str) (h1:aR [.list (c.map aJ)]=some (.sh (.str A))) (h2:aR [.list (e.map aJ)]=some (.sh (.str B))):zK [SL ns,x1, .sh (.list (c.map aJ)), .sh (.list (e.map aJ)),x4,x5,x6,x7,x8,x9,x10,x11,x12,x13,x14,x15,x16,x17]=some ([SL ns,x1, .sh (.list (c.map aJ)), .sh (.list (e.map aJ)),x4,x5,x6,x7, .ow [.str A, .str B],x9,x10,x11,x12,x13,x14,x15,x16,x17], .nx):=by
  simp only [zK,aH,b9,aL,au,af,ae,SL,List.getElem?_cons_succ,List.getElem?_cons_zero,Sl.isBr,Bool.false_and,Bool.false_eq_true,aq,Option.map_some,if_false,Option.bind_some,aF,look,Sl.val,h1,frz,bC,h2,List.length_cons,List.length_nil,Nat.zero_add,Nat.reduceAdd,Nat.reduceLeDiff,if_true,PL.settle,frzAll,Nat.reduceLT,List.set_cons_succ,List.set_cons_zero]
theorem Aq (ns:List Int) (x1 x3 x4 x5 x7 x9 x10 x11 x12 x13 x14 x15 x16 x17:Sl) (c:List Pc) (A B:Str) (d:PyData) (lc:(c.length≤1000000)=True) (hp:jV ["Parts"] "parts" (ae 6) [SL ns,x1, .sh (.list (c.map aJ)),x3,x4,x5, .sh d,x7, .ow [.str A, .str B],x9,x10,x11,x12,x13,x14,x15,x16,x17]=some (.sh (.int c.length),[SL ns,x1, .sh (.list (c.map aJ)),x3,x4,x5, .sh d,x7, .ow [.str A, .str B],x9,x10,x11,x12,x13,x14,x15,x16,x17])) (h:ax [d, .list (c.map aJ), .str A]=some (.sh (.bool true))):xb [SL ns,x1, .sh (.list (c.map aJ)),x3,x4,x5, .sh d,x7, .ow [.str A, .str B],x9,x10,x11,x12,x13,x14,x15,x16,x17]=some ([SL ns,x1, .sh (.list (c.map aJ)),x3,x4,x5, .sh d,x7, .ow [.str A, .str B],x9,x10,x11,x12,x13,x14,x15,x16,x17], .nx):=by
  unfold SL at hp
  have q:mS (.int (c.length:Int)) (.int (c.length:Int))=some true:=by rw [bR,decide_eq_true rfl]
  simp only [xb,bn,eg,dH,ah,SL,hp,Sl.isBr,Bool.false_and,Bool.false_eq_true,bB,af,ae,aq,Option.map_some,if_false,dX,fS,dD,look,Sl.val,Option.bind_some,List.getElem?_cons_succ,List.getElem?_cons_zero,aF,List.length_map,q,Bool.not_true,aW,b8,au,pC,fi,hot,cm,Option.any_some,i8,h,gn,aD,aM]
theorem Ar (ns:List Int) (x1 x2 x4 x5 x6 x9 x10 x11 x12 x13 x14 x15 x16 x17:Sl) (e:List Pc) (A B:Str) (d:PyData) (h:ax [d, .list (e.map aJ), .str B]=some (.sh (.bool true))):xc [SL ns,x1,x2, .sh (.list (e.map aJ)),x4,x5,x6, .sh d, .ow [.str A, .str B],x9,x10,x11,x12,x13,x14,x15,x16,x17]=some ([SL ns,x1,x2, .sh (.list (e.map aJ)),x4,x5,x6, .sh d, .ow [.str A, .str B],x9,x10,x11,x12,x13,x14,x15,x16,x17], .nx):=by
  simp only [xc,bn,aW,b8,au,af,ae,SL,List.getElem?_cons_succ,List.getElem?_cons_zero,Sl.isBr,Bool.false_and,Bool.false_eq_true,ah,pC,fi,look,Sl.val,hot,cm,Option.bind_some,if_false,aq,Option.map_some,Option.any_some,m7,aF,h,gn,Bool.not_true,aD,aM]
theorem As (ns:List Int) (x1 x2 x3 x5 x7 x8 x9 x10 x11 x12 x13 x14 x15 x16 x17:Sl) (d:PyData) (k z:Int) (hf:aO d=true) (hz:nK ai d=some z) (hm:bz z (ay k)=true):xf [SL ns,x1,x2,x3, .sh (.int k),x5, .sh d,x7,x8,x9,x10,x11,x12,x13,x14,x15,x16,x17]=some ([SL ns,x1,x2,x3, .sh (.int k),x5, .sh d,x7,x8, .sh (iY d k (z*ay k)),x10,x11,x12,x13,x14,x15,x16,x17], .nx):=by
  simp only [xf,aH,bg,af,ae,SL,List.getElem?_cons_succ,List.getElem?_cons_zero,Sl.isBr,Bool.false_and,Bool.false_eq_true,aq,Option.map_some,if_false,Option.bind_some,bA,aF,look,Sl.val,hz,hf,Bool.true_and,hm,if_true,PL.settle,frz,frzAll,List.length_cons,List.length_nil,Nat.zero_add,Nat.reduceAdd,Nat.reduceLT,List.set_cons_succ,List.set_cons_zero,iY]
theorem At (ns:List Int) (x1 x2 x3 x5 x6 x7 x8 x9 x10 x11 x12 x13 x14 x15 x16 x17:Sl) (k:Int) (hb:k.natAbs < 10 ^ 30):va [SL ns,x1,x2,x3, .sh (.int k),x5,x6,x7,x8,x9,x10,x11,x12,x13,x14,x15,x16,x17]=some ([SL ns,x1,x2,x3, .sh (.int k),x5,x6,x7,x8,x9, .sh (.str ⟨(fH (k)).toArray⟩),x11,x12,x13,x14,x15,x16,x17], .nx):=by
  have hb':(k).natAbs < 10 ^ 30:=by omega
  have nl:=NH.ma hb'
  have lg:((k).natAbs.log2 < 1920)=True:=eq_true (mD hb')
  have e0:=py (k)
  have ml:((NH.jZ (k)).length≤1000)=True:=eq_true (by omega)
  by_cases hk:k=1
  · have e:fH (k)=[]:=by unfold fH;rw [if_pos (by omega)]
    have hd:decide (k=1)=true:=decide_eq_true hk
    have m0:=oM (NH.jZ (k))
    rw [e]
    simp only [va,aH,ah,bB,af,ae,SL,List.getElem?_cons_succ,List.getElem?_cons_zero,Sl.isBr,Bool.false_and,Bool.false_eq_true,aq,Option.map_some,if_false,Option.bind_some,fc,aF,look,Sl.val,lg,e0,if_true,pC,fS,dD,iR,gl,ig,Int.reduceNeg,bR,hd,Bool.not_true,bG,ml,Int.reduceLE,and_self,m0,PL.settle,frz,frzAll,List.length_cons,List.length_nil,Nat.zero_add,Nat.reduceAdd,Nat.reduceLT,List.set_cons_succ,List.set_cons_zero]
  · have e:fH (k)=NH.jZ (k):=by unfold fH;rw [if_neg (by omega)]
    have hd:decide (k=1)=false:=decide_eq_false hk
    have m0:=mE (NH.jZ (k))
    rw [e]
    simp only [va,aH,ah,bB,af,ae,SL,List.getElem?_cons_succ,List.getElem?_cons_zero,Sl.isBr,Bool.false_and,Bool.false_eq_true,aq,Option.map_some,if_false,Option.bind_some,fc,aF,look,Sl.val,lg,e0,if_true,pC,fS,dD,iR,gl,ig,Int.reduceNeg,bR,hd,Bool.not_false,bG,ml,Int.reduceLE,and_self,m0,PL.settle,frz,frzAll,List.length_cons,List.length_nil,Nat.zero_add,Nat.reduceAdd,Nat.reduceLT,List.set_cons_succ,List.set_cons_zero]
theorem Au (ns:List Int) (x1 x2 x3 x5 x6 x7 x8 x9 x10 x11 x12 x13 x14 x15 x16 x17:Sl) (k:Int) (hb:k.natAbs < 10 ^ 30):vb [SL ns,x1,x2,x3, .sh (.int k),x5,x6,x7,x8,x9,x10,x11,x12,x13,x14,x15,x16,x17]=some ([SL ns,x1,x2,x3, .sh (.int k),x5,x6,x7,x8,x9,x10,x11,x12,x13,x14, .sh (.str ⟨(fH (0 - k)).toArray⟩),x16,x17], .nx):=by
  have hb':(0 - k).natAbs < 10 ^ 30:=by omega
  have nl:=NH.ma hb'
  have lg:((0 - k).natAbs.log2 < 1920)=True:=eq_true (mD hb')
  have e0:=py (0 - k)
  have ml:((NH.jZ (0 - k)).length≤1000)=True:=eq_true (by omega)
  by_cases hk:k= -1
  · have e:fH (0 - k)=[]:=by unfold fH;rw [if_pos (by omega)]
    have hd:decide (k= -1)=true:=decide_eq_true hk
    have m0:=oM (NH.jZ (0 - k))
    rw [e]
    simp only [vb,aH,ah,bB,af,pC,SL,Sl.isBr,Bool.false_and,Bool.false_eq_true,ae,dE,dD,look,Sl.val,j9,if_true,if_false,Option.bind_some,List.getElem?_cons_succ,List.getElem?_cons_zero,Option.map_some,aq,fc,aF,lg,e0,gh,gs,Int.reduceNeg,fS,iR,gl,ig,bR,hd,Bool.not_true,bG,ml,Int.reduceLE,and_self,m0,PL.settle,frz,frzAll,List.length_cons,List.length_nil,Nat.zero_add,Nat.reduceAdd,Nat.reduceLT,List.set_cons_succ,List.set_cons_zero]
  · have e:fH (0 - k)=NH.jZ (0 - k):=by unfold fH;rw [if_neg (by omega)]
    have hd:decide (k= -1)=false:=decide_eq_false hk
    have m0:=mE (NH.jZ (0 - k))
    rw [e]
    simp only [vb,aH,ah,bB,af,pC,SL,Sl.isBr,Bool.false_and,Bool.false_eq_true,ae,dE,dD,look,Sl.val,j9,if_true,if_false,Option.bind_some,List.getElem?_cons_succ,List.getElem?_cons_zero,Option.map_some,aq,fc,aF,lg,e0,gh,gs,Int.reduceNeg,fS,iR,gl,ig,bR,hd,Bool.not_false,bG,ml,Int.reduceLE,and_self,m0,PL.settle,frz,frzAll,List.length_cons,List.length_nil,Nat.zero_add,Nat.reduceAdd,Nat.reduceLT,List.set_cons_succ,List.set_cons_zero]
theorem Av (ns:List Int) (x1 x2 x3 x5 x6 x7 x10 x11 x12 x13 x14 x15 x16 x17:Sl) (A B:Str) (d:PyData) (k z:Int) (h:bT [d]=some (.sh (.str A))):xg [SL ns,x1,x2,x3, .sh (.int k),x5,x6,x7, .ow [.str A, .str B], .sh (iY d k z),x10,x11,x12,x13,x14,x15,x16,x17]=some ([SL ns,x1,x2,x3, .sh (.int k),x5,x6,x7, .ow [.str A, .str B], .sh (iY d k z),x10,x11,x12,x13,x14,x15,x16,x17], .nx):=by
  have q:mS (.int k) (.int k)=some true:=by rw [bR,decide_eq_true rfl]
  have q2:=iz A
  have f1:bx ["Times"] "number" (ae 9) [SL ns,x1,x2,x3, .sh (.int k),x5,x6,x7, .ow [.str A, .str B], .sh (iY d k z),x10,x11,x12,x13,x14,x15,x16,x17]=some (.sh (.int k),[SL ns,x1,x2,x3, .sh (.int k),x5,x6,x7, .ow [.str A, .str B], .sh (iY d k z),x10,x11,x12,x13,x14,x15,x16,x17]):=bX rfl (c1 _) ((qD (by decide+kernel)).trans j_)
  have f2:bx ["Times"] "body" (ae 9) [SL ns,x1,x2,x3, .sh (.int k),x5,x6,x7, .ow [.str A, .str B], .sh (iY d k z),x10,x11,x12,x13,x14,x15,x16,x17]=some (.sh d,[SL ns,x1,x2,x3, .sh (.int k),x5,x6,x7, .ow [.str A, .str B], .sh (iY d k z),x10,x11,x12,x13,x14,x15,x16,x17]):=bX rfl (c1 _) j_
  unfold SL at f1 f2
  generalize iY d k z=u at f1 f2 ⊢
  simp only [xg,bn,eg,dH,ah,SL,f1,Sl.isBr,Bool.false_and,Bool.false_eq_true,ae,fS,dD,look,Sl.val,if_false,Option.bind_some,List.getElem?_cons_succ,List.getElem?_cons_zero,q,Option.map_some,Bool.not_true,a7,pC,fi,hot,cm,f2,h,Option.any_some,i8,q2,aD,aM]
theorem Aw (ns:List Int) (x1 x3 x5 x6 x7 x11 x12 x13 x14 x15 x16 x17:Sl) (c:List Pc) (cw:List PyData) (A B M:List Nat) (d:PyData) (k:Int) (lA:A.length≤100000) (lM:M.length≤1000) (hc:aB [.list (c.map aJ), .int k]=some (.ow cw)) (h:ax [d, .list cw, .str ⟨(40::(A++41::M)).toArray⟩]=some (.sh (.bool true))):xh [SL ns,x1, .sh (.list (c.map aJ)),x3, .sh (.int k),x5,x6,x7, .ow [.str ⟨A.toArray⟩, .str ⟨B.toArray⟩], .sh d, .sh (.str ⟨M.toArray⟩),x11,x12,x13,x14,x15,x16,x17]=some ([SL ns,x1, .sh (.list (c.map aJ)),x3, .sh (.int k),x5,x6,x7, .ow [.str ⟨A.toArray⟩, .str ⟨B.toArray⟩], .sh d, .sh (.str ⟨M.toArray⟩),x11,x12,x13,x14,x15,x16,x17], .nx):=by
  obtain ⟨L1,s1,h1⟩:∃L:List Nat,Str.ofString "("=⟨L.toArray⟩∧L=[40]:=⟨[40],by decide+kernel,rfl⟩
  obtain ⟨L2,s2,h2⟩:∃L:List Nat,Str.ofString ")"=⟨L.toArray⟩∧L=[41]:=⟨[41],by decide+kernel,rfl⟩
  have k1:(L1.length+A.length≤1000000)=True:=eq_true (by rw [h1];simp;omega)
  have k2:((L1++A).length+L2.length≤1000000)=True:=eq_true (by rw [h1,h2];simp;omega)
  have k3:((L1++A++L2).length+M.length≤1000000)=True:=eq_true (by rw [h1,h2];simp;omega)
  have fin:40::(A++41::M)=L1++A++L2++M:=by rw [h1,h2];simp
  rw [fin] at h
  simp only [xh,bn,aW,b8,au,af,ae,SL,List.getElem?_cons_succ,List.getElem?_cons_zero,Sl.isBr,Bool.false_and,Bool.false_eq_true,aq,Option.map_some,if_false,ah,pC,s1,fi,look,Sl.val,hot,cm,Option.bind_some,aC,Bool.not_false,Bool.true_or,Bool.and_true,s2,aF,hc,Option.any_some,i8,bG,k1,gC,if_true,k2,k3,h,gn,Bool.not_true,aD,aM]
theorem Ax (ns:List Int) (x1 x2 x3 x4 x5 x8 x9 x10 x11 x12 x13 x14 x15 x16 x17:Sl) (d e:PyData) (z y:Int) (hf:aO d=true) (hg:aO e=true) (hz:nK ai d=some z) (hy:nK ai e=some y):xi [SL ns,x1,x2,x3,x4,x5, .sh d, .sh e,x8,x9,x10,x11,x12,x13,x14,x15,x16,x17]=some ([SL ns,x1,x2,x3,x4,x5, .sh d, .sh e,x8,x9,x10, .sh (nN d e (2*(z+y))),x12,x13,x14,x15,x16,x17], .nx):=by
  simp only [xi,aH,bg,af,ae,SL,List.getElem?_cons_succ,List.getElem?_cons_zero,Sl.isBr,Bool.false_and,Bool.false_eq_true,aq,Option.map_some,if_false,Option.bind_some,fb,aF,look,Sl.val,hz,hy,hf,hg,Bool.and_true,if_true,PL.settle,frz,frzAll,List.length_cons,List.length_nil,Nat.zero_add,Nat.reduceAdd,Nat.reduceLT,List.set_cons_succ,List.set_cons_zero,nN]
theorem zL (ns:List Int) (x1 x4 x5 x6 x7 x8 x9 x10 x11 x12 x13 x14 x15 x16 x17:Sl) (c e:List Pc) (lc:c.length≤1000) (le:e.length≤1000):xj [SL ns,x1, .sh (.list (c.map aJ)), .sh (.list (e.map aJ)),x4,x5,x6,x7,x8,x9,x10,x11,x12,x13,x14,x15,x16,x17]=some ([SL ns,x1, .sh (.list (c.map aJ)), .sh (.list (e.map aJ)),x4,x5,x6,x7,x8,x9,x10,x11, .ow ((c++e++NH.contr c++NH.contr e).map aJ),x13,x14,x15,x16,x17], .nx):=by
  have c1:=eB c (by omega)
  have c2:=eB e (by omega)
  have la:(NH.contr c).length=c.length:=NH.a9 c
  have lb:(NH.contr e).length=e.length:=NH.a9 e
  have l1:(c.length+e.length≤1000000)=True:=eq_true (by omega)
  have l2:((c++e).length+(NH.contr c).length≤1000000)=True:=eq_true (by rw [List.length_append];omega)
  have l3:((c++e++NH.contr c).length+(NH.contr e).length≤1000000)=True:=eq_true (by rw [List.length_append,List.length_append];omega)
  simp only [xj,aH,ah,ae,SL,List.getElem?_cons_succ,List.getElem?_cons_zero,Sl.isBr,Bool.false_and,Bool.false_eq_true,aC,look,Sl.val,hot,cm,if_false,Option.bind_some,Bool.not_false,Bool.true_or,Bool.and_true,List.length_map,l1,decide_true,←List.map_append,if_true,au,af,aq,Option.map_some,aF,c1,l2,c2,l3,PL.settle,frz,frzAll,List.length_cons,List.length_nil,Nat.zero_add,Nat.reduceAdd,Nat.reduceLT,List.set_cons_succ,List.set_cons_zero]
theorem Ay (ns:List Int) (x1 x2 x3 x4 x5 x6 x7 x9 x10 x11 x12 x13 x14 x15 x16 x17:Sl) (A B:List Nat) (lA:A.length≤100000) (lB:B.length≤100000):xk [SL ns,x1,x2,x3,x4,x5,x6,x7, .ow [.str ⟨A.toArray⟩, .str ⟨B.toArray⟩],x9,x10,x11,x12,x13,x14,x15,x16,x17]=some ([SL ns,x1,x2,x3,x4,x5,x6,x7, .ow [.str ⟨A.toArray⟩, .str ⟨B.toArray⟩],x9,x10,x11,x12, .sh (.str ⟨(91::(A++44::(B++[93]))).toArray⟩),x14,x15,x16,x17], .nx):=by
  obtain ⟨L1,s1,h1⟩:∃L:List Nat,Str.ofString "["=⟨L.toArray⟩∧L=[91]:=⟨[91],by decide+kernel,rfl⟩
  obtain ⟨L2,s2,h2⟩:∃L:List Nat,Str.ofString ","=⟨L.toArray⟩∧L=[44]:=⟨[44],by decide+kernel,rfl⟩
  obtain ⟨L3,s3,h3⟩:∃L:List Nat,Str.ofString "]"=⟨L.toArray⟩∧L=[93]:=⟨[93],by decide+kernel,rfl⟩
  have k1:(L1.length+A.length≤1000000)=True:=eq_true (by rw [h1];simp;omega)
  have k2:((L1++A).length+L2.length≤1000000)=True:=eq_true (by rw [h1,h2];simp;omega)
  have k3:((L1++A++L2).length+B.length≤1000000)=True:=eq_true (by rw [h1,h2];simp;omega)
  have k4:((L1++A++L2++B).length+L3.length≤1000000)=True:=eq_true (by rw [h1,h2,h3];simp;omega)
  have fin:L1++A++L2++B++L3=91::(A++44::(B++[93])):=by rw [h1,h2,h3];simp
  rw [←fin]
  simp only [xk,aH,ah,pC,s1,SL,Sl.isBr,Bool.false_and,Bool.false_eq_true,ae,fi,look,Sl.val,hot,cm,Option.bind_some,if_false,aC,List.getElem?_cons_succ,List.getElem?_cons_zero,Option.any_some,i8,Option.map_some,Bool.not_false,Bool.true_or,Bool.and_true,bG,k1,gC,if_true,s2,k2,m7,k3,s3,k4,PL.settle,frz,frzAll,List.length_cons,List.length_nil,Nat.zero_add,Nat.reduceAdd,Nat.reduceLT,List.set_cons_succ,List.set_cons_zero]
theorem Az (ns:List Int) (x1 x2 x3 x4 x5 x6 x7 x9 x10 x14 x15 x16 x17:Sl) (A B V:Str) (cw:List PyData) (d e:PyData) (z:Int) (h1:bT [d]=some (.sh (.str A))) (h2:bT [e]=some (.sh (.str B))) (h:ax [nN d e z, .list cw, .str V]=some (.sh (.bool true))):xm [SL ns,x1,x2,x3,x4,x5,x6,x7, .ow [.str A, .str B],x9,x10, .sh (nN d e z), .ow cw, .sh (.str V),x14,x15,x16,x17]=some ([SL ns,x1,x2,x3,x4,x5,x6,x7, .ow [.str A, .str B],x9,x10, .sh (nN d e z), .ow cw, .sh (.str V),x14,x15,x16,x17], .nx):=by
  have qA:=iz A
  have qB:=iz B
  have f1:bx ["Back"] "one" (ae 11) [SL ns,x1,x2,x3,x4,x5,x6,x7, .ow [.str A, .str B],x9,x10, .sh (nN d e z), .ow cw, .sh (.str V),x14,x15,x16,x17]=some (.sh d,[SL ns,x1,x2,x3,x4,x5,x6,x7, .ow [.str A, .str B],x9,x10, .sh (nN d e z), .ow cw, .sh (.str V),x14,x15,x16,x17]):=bX rfl (c1 _) j_
  have f2:bx ["Back"] "other" (ae 11) [SL ns,x1,x2,x3,x4,x5,x6,x7, .ow [.str A, .str B],x9,x10, .sh (nN d e z), .ow cw, .sh (.str V),x14,x15,x16,x17]=some (.sh e,[SL ns,x1,x2,x3,x4,x5,x6,x7, .ow [.str A, .str B],x9,x10, .sh (nN d e z), .ow cw, .sh (.str V),x14,x15,x16,x17]):=bX rfl (c1 _) ((qD (by decide+kernel)).trans j_)
  unfold SL at f1 f2
  generalize nN d e z=u at f1 f2 h ⊢
  simp only [xm,bn,eg,dH,ah,a7,SL,f1,look,Sl.val,Option.bind_some,h1,Option.map_some,Sl.isBr,Bool.false_and,Bool.false_eq_true,ae,pC,fi,hot,cm,if_false,fS,dD,List.getElem?_cons_succ,List.getElem?_cons_zero,Option.any_some,i8,qA,Bool.not_true,aW,b8,au,af,aq,f2,h2,m7,qB,aF,h,gn,aD,aM]
theorem AC (ns:List Int) (x1 x2 x3 x5 x6 x7 x8 x9 x10 x12 x13 x14 x15 x16 x17:Sl) (d:PyData) (k z:Int) (hf:aO d=true) (hz:nK ai d=some z) (hm:bz z (ay (0 - k))=true):xn [SL ns,x1,x2,x3, .sh (.int k),x5,x6,x7,x8,x9,x10, .sh d,x12,x13,x14,x15,x16,x17]=some ([SL ns,x1,x2,x3, .sh (.int k),x5,x6,x7,x8,x9,x10, .sh d,x12,x13, .sh (iY d (0 - k) (z*ay (0 - k))),x15,x16,x17], .nx):=by
  simp only [xn,aH,bg,af,ae,SL,List.getElem?_cons_succ,List.getElem?_cons_zero,Sl.isBr,Bool.false_and,Bool.false_eq_true,ah,pC,dE,dD,look,Sl.val,j9,if_true,if_false,Option.bind_some,aq,Option.map_some,bA,aF,hz,hf,Bool.true_and,hm,PL.settle,frz,frzAll,List.length_cons,List.length_nil,Nat.zero_add,Nat.reduceAdd,Nat.reduceLT,List.set_cons_succ,List.set_cons_zero,iY]
theorem AD (ns:List Int) (x1 x2 x3 x5 x6 x7 x8 x9 x10 x11 x16 x17:Sl) (c:List Pc) (cw:List PyData) (V M:List Nat) (d:PyData) (k:Int) (lV:V.length≤300000) (lM:M.length≤1000) (hc:aB [.list (c.map aJ), .int (0 - k)]=some (.ow cw)) (h:ax [d, .list cw, .str ⟨(40::(V++41::M)).toArray⟩]=some (.sh (.bool true))):xo [SL ns,x1,x2,x3, .sh (.int k),x5,x6,x7,x8,x9,x10,x11, .ow (c.map aJ), .sh (.str ⟨V.toArray⟩), .sh d, .sh (.str ⟨M.toArray⟩),x16,x17]=some ([SL ns,x1,x2,x3, .sh (.int k),x5,x6,x7,x8,x9,x10,x11, .ow (c.map aJ), .sh (.str ⟨V.toArray⟩), .sh d, .sh (.str ⟨M.toArray⟩),x16,x17], .nx):=by
  obtain ⟨L1,s1,h1⟩:∃L:List Nat,Str.ofString "("=⟨L.toArray⟩∧L=[40]:=⟨[40],by decide+kernel,rfl⟩
  obtain ⟨L2,s2,h2⟩:∃L:List Nat,Str.ofString ")"=⟨L.toArray⟩∧L=[41]:=⟨[41],by decide+kernel,rfl⟩
  have k1:(L1.length+V.length≤1000000)=True:=eq_true (by rw [h1];simp;omega)
  have k2:((L1++V).length+L2.length≤1000000)=True:=eq_true (by rw [h1,h2];simp;omega)
  have k3:((L1++V++L2).length+M.length≤1000000)=True:=eq_true (by rw [h1,h2];simp;omega)
  have fin:40::(V++41::M)=L1++V++L2++M:=by rw [h1,h2];simp
  rw [fin] at h
  simp only [xo,bn,aW,b8,au,af,ae,SL,List.getElem?_cons_succ,List.getElem?_cons_zero,Sl.isBr,Bool.false_and,Bool.false_eq_true,ah,pC,dE,dD,look,Sl.val,j9,if_true,if_false,Option.bind_some,aq,Option.map_some,s1,aC,hot,cm,Bool.not_false,Bool.true_or,Bool.and_true,s2,aF,hc,bG,k1,gC,k2,k3,h,gn,Bool.not_true,aD,aM]
theorem AE (ns:List Int) (x1 x2 x3 x4 x5 x8 x10 x11 x12 x13 x15 x16 x17:Sl) (d6 d7 d9 d14 w:PyData) (kvs:List (PyData×PyData)) (f6:aO d6=true) (f7:aO d7=true) (f9:aO d9=true) (f14:aO d14=true) (h:bo ai [.list [d7,d9,d14,d6]]=some kvs) (hw:cR "Parts" kvs=w):xp [SL ns,x1,x2,x3,x4,x5, .sh d6, .sh d7,x8, .sh d9,x10,x11,x12,x13, .sh d14,x15,x16,x17]=some ([SL ns,x1,x2,x3,x4,x5, .sh d6, .sh d7,x8, .sh d9,x10,x11,x12,x13, .sh d14,x15, .sh w,x17], .nx):=by
  simp only [xp,aH,bg,af,b9,aL,ae,SL,List.getElem?_cons_succ,List.getElem?_cons_zero,frz,bC,Option.map_some,Option.bind_some,List.length_cons,List.length_nil,Nat.zero_add,Nat.reduceAdd,Nat.reduceLeDiff,if_true,Sl.isBr,Bool.false_and,Bool.false_eq_true,aq,if_false,aF,look,Sl.val,h,hw,PL.settle,frzAll,Nat.reduceLT,List.set_cons_succ,List.set_cons_zero]
theorem AF (ns:List Int) (x1 x5 x6 x7 x8 x9 x10 x11 x13 x14 x15 x16 x17:Sl) (c e D a b:List Pc) (k:Int) (la:a.length≤1000) (lb:b.length≤1000) (lc:c.length≤1000) (le:e.length≤1000) (ha:aB [.list (c.map aJ), .int k]=some (.ow (a.map aJ))) (hb:aB [.list (D.map aJ), .int (0 - k)]=some (.ow (b.map aJ))):xq [SL ns,x1, .sh (.list (c.map aJ)), .sh (.list (e.map aJ)), .sh (.int k),x5,x6,x7,x8,x9,x10,x11, .ow (D.map aJ),x13,x14,x15,x16,x17]=some ([SL ns,x1, .sh (.list (c.map aJ)), .sh (.list (e.map aJ)), .sh (.int k),x5,x6,x7,x8,x9,x10,x11, .ow (D.map aJ),x13,x14,x15,x16, .ow ((e++a++b++c).map aJ)], .nx):=by
  have l1:(e.length+a.length≤1000000)=True:=eq_true (by omega)
  have l2:((e++a).length+b.length≤1000000)=True:=eq_true (by rw [List.length_append];omega)
  have l3:((e++a++b).length+c.length≤1000000)=True:=eq_true (by rw [List.length_append,List.length_append];omega)
  simp only [xq,aH,ah,ae,SL,List.getElem?_cons_succ,List.getElem?_cons_zero,Sl.isBr,Bool.false_and,Bool.false_eq_true,au,af,aq,Option.map_some,if_false,aC,look,Sl.val,hot,cm,Option.bind_some,aF,ha,Bool.not_false,Bool.true_or,Bool.and_true,List.length_map,l1,decide_true,←List.map_append,if_true,pC,dE,dD,j9,hb,l2,l3,PL.settle,frz,frzAll,List.length_cons,List.length_nil,Nat.zero_add,Nat.reduceAdd,Nat.reduceLT,List.set_cons_succ,List.set_cons_zero]
theorem AG (ns:List Int) (x1 x2 x3 x4 x5 x6 x7 x9 x11 x12 x13 x14 x15 x16 x17:Sl) (A B M:List Nat) (lA:A.length≤100000) (lB:B.length≤100000) (lM:M.length≤1000):xr [SL ns,x1,x2,x3,x4,x5,x6,x7, .ow [.str ⟨A.toArray⟩, .str ⟨B.toArray⟩],x9, .sh (.str ⟨M.toArray⟩),x11,x12,x13,x14,x15,x16,x17]=some ([SL ns,x1,x2,x3,x4,x5,x6,x7, .ow [.str ⟨A.toArray⟩, .str ⟨B.toArray⟩],x9, .sh (.str ⟨M.toArray⟩),x11, .sh (.str ⟨(B++40::(A++41::M)).toArray⟩),x13,x14,x15,x16,x17], .nx):=by
  obtain ⟨L1,s1,h1⟩:∃L:List Nat,Str.ofString "("=⟨L.toArray⟩∧L=[40]:=⟨[40],by decide+kernel,rfl⟩
  obtain ⟨L2,s2,h2⟩:∃L:List Nat,Str.ofString ")"=⟨L.toArray⟩∧L=[41]:=⟨[41],by decide+kernel,rfl⟩
  have k1:(B.length+L1.length≤1000000)=True:=eq_true (by rw [h1];simp;omega)
  have k2:((B++L1).length+A.length≤1000000)=True:=eq_true (by rw [h1];simp;omega)
  have k3:((B++L1++A).length+L2.length≤1000000)=True:=eq_true (by rw [h1,h2];simp;omega)
  have k4:((B++L1++A++L2).length+M.length≤1000000)=True:=eq_true (by rw [h1,h2];simp;omega)
  have fin:B++L1++A++L2++M=B++40::(A++41::M):=by rw [h1,h2];simp
  rw [←fin]
  simp only [xr,aH,ah,ae,SL,List.getElem?_cons_succ,List.getElem?_cons_zero,Sl.isBr,Bool.false_and,Bool.false_eq_true,pC,fi,look,Sl.val,hot,cm,Option.bind_some,if_false,Option.any_some,m7,Option.map_some,s1,aC,Bool.not_false,Bool.true_or,Bool.and_true,bG,k1,gC,if_true,i8,k2,s2,k3,k4,PL.settle,frz,frzAll,List.length_cons,List.length_nil,Nat.zero_add,Nat.reduceAdd,Nat.reduceLT,List.set_cons_succ,List.set_cons_zero]
theorem AH (ns:List Int) (x1 x2 x3 x4 x5 x6 x7 x9 x10 x11 x14 x16 x17:Sl) (U A B V M:List Nat) (lU:U.length≤200000) (lA:A.length≤100000) (lV:V.length≤300000) (lM:M.length≤1000):xu [SL ns,x1,x2,x3,x4,x5,x6,x7, .ow [.str ⟨A.toArray⟩, .str ⟨B.toArray⟩],x9,x10,x11, .sh (.str ⟨U.toArray⟩), .sh (.str ⟨V.toArray⟩),x14, .sh (.str ⟨M.toArray⟩),x16,x17]=some ([SL ns,x1,x2,x3,x4,x5,x6,x7, .ow [.str ⟨A.toArray⟩, .str ⟨B.toArray⟩],x9,x10,x11, .sh (.str ⟨(U++40::(V++41::(M++A))).toArray⟩), .sh (.str ⟨V.toArray⟩),x14, .sh (.str ⟨M.toArray⟩),x16,x17], .nx):=by
  obtain ⟨L1,s1,h1⟩:∃L:List Nat,Str.ofString "("=⟨L.toArray⟩∧L=[40]:=⟨[40],by decide+kernel,rfl⟩
  obtain ⟨L2,s2,h2⟩:∃L:List Nat,Str.ofString ")"=⟨L.toArray⟩∧L=[41]:=⟨[41],by decide+kernel,rfl⟩
  have k1:(U.length+L1.length≤1000000)=True:=eq_true (by rw [h1];simp;omega)
  have k2:((U++L1).length+V.length≤1000000)=True:=eq_true (by rw [h1];simp;omega)
  have k3:((U++L1++V).length+L2.length≤1000000)=True:=eq_true (by rw [h1,h2];simp;omega)
  have k4:((U++L1++V++L2).length+M.length≤1000000)=True:=eq_true (by rw [h1,h2];simp;omega)
  have k5:((U++L1++V++L2++M).length+A.length≤1000000)=True:=eq_true (by rw [h1,h2];simp;omega)
  have fin:U++L1++V++L2++M++A=U++40::(V++41::(M++A)):=by rw [h1,h2];simp
  rw [←fin]
  simp only [xu,aH,ah,ae,SL,List.getElem?_cons_succ,List.getElem?_cons_zero,Sl.isBr,Bool.false_and,Bool.false_eq_true,pC,s1,aC,look,Sl.val,hot,cm,Option.bind_some,Bool.not_false,Bool.true_or,Bool.and_true,if_false,bG,k1,gC,if_true,k2,s2,k3,k4,fi,Option.any_some,i8,Option.map_some,k5,PL.settle,frz,frzAll,List.length_cons,List.length_nil,Nat.zero_add,Nat.reduceAdd,Nat.reduceLT,List.set_cons_succ,List.set_cons_zero]
theorem AI (ns:List Int) (x1 x3 x4 x5 x7 x8 x9 x10 x11 x12 x13 x14 x15 x16 x17:Sl) (c:List Pc) (d:PyData) (lc:(c.length≤1000000)=True) (h:aY [d, .int c.length, .int (ns.getD 4 0)]=some (.sh (.bool true))):xv [SL ns,x1, .sh (.list (c.map aJ)),x3,x4,x5, .sh d,x7,x8,x9,x10,x11,x12,x13,x14,x15,x16,x17]=some ([SL ns,x1, .sh (.list (c.map aJ)),x3,x4,x5, .sh d,x7,x8,x9,x10,x11,x12,x13,x14,x15,x16,x17], .nx):=by
  have a:=fN ns 4
  rw [show ((4:Nat):Int)=4 from rfl] at a
  simp only [xv,bn,aW,b8,au,af,ae,SL,List.getElem?_cons_succ,List.getElem?_cons_zero,Sl.isBr,Bool.false_and,Bool.false_eq_true,bB,aq,Option.map_some,if_false,dX,pC,Option.bind_some,aF,look,Sl.val,List.length_map,a,h,gn,Bool.not_true,aD,aM]
theorem AJ (ns:List Int) (x1 x2 x3 x4 x5 x6 x7 x8 x9 x10 x11 x13 x14 x15:Sl) (cw:List PyData) (d:PyData) (U:Str) (h:ax [d, .list cw, .str U]=some (.sh (.bool true))) (h2:ax [td [] 0, .list [], .str ""]=some (.sh (.bool true))):∃E,xw [SL ns,x1,x2,x3,x4,x5,x6,x7,x8,x9,x10,x11, .sh (.str U),x13,x14,x15, .sh d, .ow cw]=some (E, .rt (.sh (.bool true))):=by
  refine ⟨[SL ns,x1,x2,x3,x4,x5,x6,x7,x8,x9,x10,x11, .sh (.str U),x13,x14,x15, .sh d, .ow cw],?_⟩
  have m0:bo ai [.list []]=some [(.str "kept", .tuple []),(.str "size", .int 0),(.tuple [.str "parts"], .int 0)]:=rfl
  have h2:ax [cR "Parts" [(.str "kept", .tuple []),(.str "size", .int 0),(.tuple [.str "parts"], .int 0)], .list [], .str ""]=some (.sh (.bool true)):=h2
  simp only [xw,aD,gu,au,af,ae,SL,List.getElem?_cons_succ,List.getElem?_cons_zero,Sl.isBr,Bool.false_and,Bool.false_eq_true,aq,Option.map_some,if_false,Option.bind_some,aF,look,Sl.val,h,bg,b9,bC,List.length_nil,Nat.reduceLeDiff,if_true,m0,pC,h2]
def vJ (r:List Pc):It:=iZ (r.map oI)
theorem xx (r:List Pc):(vJ r).A=jb r:=by
  show (r.map oI).flatMap It.A=_
  rw [List.flatMap_map]
  rfl
theorem yH (r:List Pc):(vJ r).c=r:=by
  show (r.map oI).flatMap It.c=_
  induction r with
  | nil=>rfl
  | cons p r ih=>rw [List.map_cons,List.flatMap_cons,ih];rfl
theorem vd (r:List Pc):(vJ r).z=r.length:=by
  show ((r.map oI).map It.z).sum=_
  induction r with
  | nil=>rfl
  | cons p r ih=>
    rw [List.map_cons,List.map_cons,List.sum_cons,ih]
    show (1:Int)+_=_
    rw [List.length_cons]
    omega
theorem nJ (c:List Pc) (k:Int) (lm:c.length*(ay k).toNat≤1000000) (kb:ay k≤1000000) (cb:c.length≤1000000):aB [.list (c.map aJ), .int k]=some (.ow ((rp c k).map aJ)):=by
  have lm:=eq_true lm
  have k1:(-1000000≤ay k)=True:=eq_true (by unfold ay;split <;> omega)
  have k2:=eq_true kb
  by_cases hk:k < 0
  · have ea:ay k= -k:=if_pos hk
    have er:rp c k=(List.replicate (-k).toNat (NH.contr c)).flatten:=if_pos hk
    have ec:=eB c cb
    have lc:(NH.contr c).length=c.length:=NH.a9 c
    rw [ea] at lm k1 k2
    rw [er]
    simp only [aB,cO,List.length_cons,List.length_nil,Nat.zero_add,Nat.reduceAdd,cS,d_,az,bn,dH,ah,ae,aI,List.map_cons,List.map_nil,Nat.sub_self,List.replicate,List.cons_append,List.nil_append,List.getElem?_cons_succ,List.getElem?_cons_zero,Sl.isBr,Bool.false_and,Bool.false_eq_true,pC,dD,look,Sl.val,eG,Cm.i,Cm.s,Option.bind_some,if_false,hk,decide_true,Option.map_some,aD,au,af,aq,gh,gs,dF,hot,cm,aM,aF,ec,Bool.not_false,Bool.true_or,Bool.and_true,List.length_map,lc,lm,k1,k2,and_self,jr,if_true,cr,ba,bH]
  · have ea:ay k=k:=if_neg hk
    have er:rp c k=(List.replicate k.toNat c).flatten:=if_neg hk
    rw [ea] at lm k1 k2
    rw [er]
    simp only [aB,cO,List.length_cons,List.length_nil,Nat.zero_add,Nat.reduceAdd,cS,d_,az,bn,dH,ah,ae,aI,List.map_cons,List.map_nil,Nat.sub_self,List.replicate,List.cons_append,List.nil_append,List.getElem?_cons_succ,List.getElem?_cons_zero,Sl.isBr,Bool.false_and,Bool.false_eq_true,pC,dD,look,Sl.val,eG,Cm.i,Cm.s,Option.bind_some,if_false,hk,decide_false,Option.map_some,aD,au,af,aq,gh,gs,dF,hot,cm,aM,aF,Bool.not_false,Bool.true_or,Bool.and_true,List.length_map,lm,k1,k2,and_self,decide_true,jr,if_true,cr,ba,bH]
theorem l0 (ns:List Int):∃W:Int,yY [SL ns, .no, .no, .no, .no, .no, .no, .no, .no, .no, .no, .no, .no, .no, .no, .no, .no, .no]=some ([SL ns, .sh (.int W), .no, .no, .no, .no, .no, .no, .no, .no, .no, .no, .no, .no, .no, .no, .no, .no], .nx)∧1≤W∧W < 10 ^ 30:=by
  have a:=fN ns 0
  rw [show ((0:Nat):Int)=0 from rfl] at a
  have m0:=Int.emod_nonneg (ns.getD 0 0 / 2) (show (2:Int)≠0 by decide)
  have m1:=Int.emod_lt_of_pos (ns.getD 0 0 / 2) (show (0:Int) < 2 by decide)
  have dd:gr 2=true:=by decide
  rcases (show ns.getD 0 0 / 2 % 2=0∨ns.getD 0 0 / 2 % 2=1 by omega) with h | h
  · have e:atI [PyData.int 3, .int 999999999999999999999999999999] 0=some (.int 3):=rfl
    exact ⟨3,by simp only [yY,aH,ah,b9,aL,pC,SL,frz,Sl.isBr,Bool.false_and,Bool.false_eq_true,hW,dD,look,Sl.val,j9,Int.reducePow,Int.reduceNeg,Option.bind_some,if_false,Int.reduceLE,Int.reduceLT,and_self,decide_true,Int.reduceToNat,if_true,Option.map_some,dE,Int.reduceSub,bC,List.length_cons,List.length_nil,Nat.zero_add,Nat.reduceAdd,Nat.reduceLeDiff,au,af,ae,aq,e8,fj,fi,hot,cm,List.getElem?_cons_zero,aF,a,dd,h,e,PL.settle,frzAll,Nat.reduceLT,List.set_cons_succ,List.set_cons_zero],by decide,by decide⟩
  · have e:atI [PyData.int 3, .int 999999999999999999999999999999] 1=some (.int 999999999999999999999999999999):=rfl
    exact ⟨999999999999999999999999999999,by simp only [yY,aH,ah,b9,aL,pC,SL,frz,Sl.isBr,Bool.false_and,Bool.false_eq_true,hW,dD,look,Sl.val,j9,Int.reducePow,Int.reduceNeg,Option.bind_some,if_false,Int.reduceLE,Int.reduceLT,and_self,decide_true,Int.reduceToNat,if_true,Option.map_some,dE,Int.reduceSub,bC,List.length_cons,List.length_nil,Nat.zero_add,Nat.reduceAdd,Nat.reduceLeDiff,au,af,ae,aq,e8,fj,fi,hot,cm,List.getElem?_cons_zero,aF,a,dd,h,e,PL.settle,frzAll,Nat.reduceLT,List.set_cons_succ,List.set_cons_zero],by decide,by decide⟩
theorem yI (c:List Pc):(vJ c).d=td (c.map cP) c.length:=by
  have h1:((c.map oI).map It.d)=c.map cP:=by rw [List.map_map];rfl
  have h2:=vd c
  show td ((c.map oI).map It.d) (vJ c).z=_
  rw [h1,h2]
theorem vK {r:List It} (h:∀x∈r,Tk x.d x.z) (hl:r.length≤1000):bo ai [.list (r.map It.d)]=some [(.str "kept", .tuple (r.map It.d)),(.str "size", .int (r.map It.z).sum),(.tuple [.str "parts"], .int (r.map It.d).length)]:=by
  have hf:=mB r h
  have hl2:decide ((r.map It.d).length≤1000000)=true:=decide_eq_true (by rw [List.length_map];omega)
  unfold bo
  simp only [tm r h,Option.bind_some,hf,hl2,Bool.and_self,if_true]
theorem vL {c:List Pc} (hl:c.length≤1000):bo ai [.list (c.map cP)]=some [(.str "kept", .tuple (c.map cP)),(.str "size", .int (c.length:Int)),(.tuple [.str "parts"], .int (c.map cP).length)]:=by
  have h1:((c.map oI).map It.d)=c.map cP:=by rw [List.map_map];rfl
  have h2:((c.map oI).map It.z).sum=(c.length:Int):=vd c
  have:=vK (r:=c.map oI) (fun x hx=>by obtain ⟨p,_,rfl⟩:=List.mem_map.mp hx;exact tj p) (by rw [List.length_map];exact hl)
  rwa [h1,h2] at this
theorem ve {cs:List Str} {f cn:Str} {kvs:List (PyData×PyData)} {n:Int} {E:List Sl} {i:Nat} (e:E[i]? =some (.sh (cR cn kvs))) (hc:cs.contains cn=true) (l:oi f kvs=some n):jV cs f (ae i) E=some (.sh (.int n),E):=by
  simp only [jV,ae,e,Option.bind_some,look,Sl.val,hc,if_true,l,Option.map_some]
def Rd (c:List Pc):Prop:=∀p∈c,xG p.1∧p.2.natAbs < 10 ^ 30
theorem vM {c:List Pc} (h:Rd c) (hl:c.length≤6):Al 2 (vJ c):=tI (fun x hx=>by
  obtain ⟨p,hp,rfl⟩:=List.mem_map.mp hx
  exact vG (h p hp).1 (h p hp).2) (by rw [List.length_map];omega) (by
  have:=jw fun p hp=>(h p hp).2
  have e:=xx c
  have e':(c.map oI).flatMap It.A=jb c:=e
  rw [e']
  omega)
theorem xy (ns:List Int) (hl:ns.length≤63):g_ [.list (ns.map .int)]=some (.sh (.bool true)):=by
  obtain ⟨W,e0,W1,W2⟩:=l0 ns
  obtain ⟨w,ew,w1,w2,w3⟩:∃w:List Nat,Str.ofString "abcdefghijklmnopqrstuvwxyz"=⟨w.toArray⟩∧0 < w.length∧w.length≤26∧∀a∈w,97≤a∧a≤122:=⟨(Str.ofString "abcdefghijklmnopqrstuvwxyz").cps.toList,by decide+kernel,by decide+kernel,by decide+kernel,by decide+kernel⟩
  obtain ⟨v,ev,v1,v2,v3⟩:∃w:List Nat,Str.ofString "zyxwvutsrqponmlkjihgfedcba"=⟨w.toArray⟩∧0 < w.length∧w.length≤26∧∀a∈w,97≤a∧a≤122:=⟨(Str.ofString "zyxwvutsrqponmlkjihgfedcba").cps.toList,by decide+kernel,by decide+kernel,by decide+kernel,by decide+kernel⟩
  have W3:W < 2 ^ 100 - 1:=Int.lt_trans W2 (by decide)
  obtain ⟨c,ec,lc,kc⟩:=i_ w W w1 w2 w3 W1 W3 (ns.getD 1 0) 6 (by decide)
  obtain ⟨e,ee,le,ke⟩:=i_ v W v1 v2 v3 W1 W3 (ns.getD 2 0) 6 (by decide)
  rw [←ew,show ((6:Nat):Int)=6 from rfl] at ec
  rw [←ev,show ((6:Nat):Int)=6 from rfl] at ee
  have rc:Rd c:=fun p hp=>⟨(kc p hp).1,by have:=(kc p hp).2;omega⟩
  have re:Rd e:=fun p hp=>⟨(ke p hp).1,by have:=(ke p hp).2;omega⟩
  have m0:=Int.emod_nonneg (ns.getD 3 0) (show (11:Int)≠0 by decide)
  have m1:=Int.emod_lt_of_pos (ns.getD 3 0) (show (0:Int) < 11 by decide)
  have e3:=l3 ns
  obtain ⟨k,hk⟩:∃k,ns.getD 3 0 % 11 - 5=k:=⟨_,rfl⟩
  rw [hk] at e3
  have k5: -5≤k∧k≤5:=by omega
  have kb:k.natAbs < 10 ^ 30:=by omega
  have kb':(0 - k).natAbs < 10 ^ 30:=by omega
  have aa:ay k≤5:=by unfold ay;split <;> omega
  have ab:ay (0 - k)≤5:=by unfold ay;split <;> omega
  have a0:0≤ay k:=by unfold ay;split <;> omega
  have b0:0≤ay (0 - k):=by unfold ay;split <;> omega
  -- the terms
  have A1:=vM rc lc
  have A2:=vM re le
  have z1:=vd c
  have z2:=vd e
  have c1':=yH c
  have c2':=yH e
  have t1:=xx c
  have t2:=xx e
  have d1:=yI c
  have d2:=yI e
  have lt1:=jw fun p hp=>(rc p hp).2
  have zW:=jw fun p hp=>(re p hp).2
  generalize hx1:vJ c=X1 at A1 z1 c1' t1 d1
  generalize hx2:vJ e=X2 at A2 z2 c2' t2 d2
  have AT:=vH (k:=k) A1 kb (by rw [t1];omega)
  have AB:=yF A1 A2 (by rw [t1,t2];omega)
  have AW:=vH (k:=0 - k) AB kb' (by show (91::(X1.A++44::(X2.A++[93]))).length≤_;rw [t1,t2];simp only [List.length_cons,List.length_append,List.length_nil];omega)
  have zT:(jc X1 k (rp X1.c k)).z=c.length*ay k:=by show X1.z*ay k=_;rw [z1]
  have zB:(di X1 X2).z=2*((c.length:Int)+e.length):=by show 2*(X1.z+X2.z)=_;rw [z1,z2]
  have mT:(c.length:Int)*ay k≤6*5:=Int.mul_le_mul (by omega) aa a0 (by omega)
  have mW:(di X1 X2).z*ay (0 - k)≤24*5:=Int.mul_le_mul (by omega) ab b0 (by omega)
  have kT:bz X1.z (ay k)=true:=dq (by omega) (by omega)
  have kW:bz (di X1 X2).z (ay (0 - k))=true:=dq (by omega) (by omega)
  have cB:(di X1 X2).c=c++e++NH.contr c++NH.contr e:=by show X1.c++X2.c++NH.contr X1.c++NH.contr X2.c=_;rw [c1',c2']
  have lB:(di X1 X2).c.length≤24:=by
    rw [cB]
    simp only [List.length_append,NH.a9]
    omega
  have p1:aB [.list (c.map aJ), .int k]=some (.ow ((rp c k).map aJ)):=nJ c k (by
    have:(ay k).toNat≤5:=by omega
    have:c.length*(ay k).toNat≤6*5:=Nat.mul_le_mul (by omega) this
    omega) (by omega) (by omega)
  have p2:aB [.list ((di X1 X2).c.map aJ), .int (0 - k)]=some (.ow ((rp (di X1 X2).c (0 - k)).map aJ)):=nJ _ (0 - k) (by
    have:(ay (0 - k)).toNat≤5:=by omega
    have:(di X1 X2).c.length*(ay (0 - k)).toNat≤24*5:=Nat.mul_le_mul lB this
    omega) (by omega) (by omega)
  have q1:(rp c k).length≤30:=by have:=oK c k;omega
  have q2:(rp (di X1 X2).c (0 - k)).length≤120:=by
    have:=oK (di X1 X2).c (0 - k)
    have:((di X1 X2).c.length:Int)*ay (0 - k)≤24*5:=Int.mul_le_mul (by omega) ab b0 (by omega)
    omega
  have all:∀x∈[X2,jc X1 k (rp X1.c k),jc (di X1 X2) (0 - k) (rp (di X1 X2).c (0 - k)),X1],Al 4 x:=by
    intro x hx
    simp only [List.mem_cons,List.not_mem_nil,or_false] at hx
    rcases hx with rfl | rfl | rfl | rfl
    · exact A2.up (by decide)
    · exact AT.up (by decide)
    · exact AW
    · exact A1.up (by decide)
  have V5:=(di X1 X2).A.length
  have lV:(di X1 X2).A.length≤1000:=by
    show (91::(X1.A++44::(X2.A++[93]))).length≤_
    rw [t1,t2]
    simp only [List.length_cons,List.length_append,List.length_nil]
    omega
  have n1:=gP kb
  have n2:=gP kb'
  have AA:=tI all (by simp) (by
    show (X2.A++(40::(X1.A++41::fH k)++(40::((di X1 X2).A++41::fH (0 - k))++(X1.A++[])))).length≤_
    rw [t1,t2]
    simp only [List.length_cons,List.length_append,List.length_nil]
    omega)
  generalize hall:[X2,jc X1 k (rp X1.c k),jc (di X1 X2) (0 - k) (rp (di X1 X2).c (0 - k)),X1]=r4 at all AA
  have zA:(iZ r4).z≤4000:=by
    rw [←hall]
    show X2.z+(X1.z*ay k+((di X1 X2).z*ay (0 - k)+(X1.z+0)))≤_
    rw [z1,z2]
    omega
  have cA:(iZ r4).c=e++rp c k++rp (di X1 X2).c (0 - k)++c:=by
    rw [←hall]
    show X2.c++(rp X1.c k++(rp (di X1 X2).c (0 - k)++(X1.c++[])))=_
    rw [c1',c2']
    simp only [List.append_assoc,List.append_nil]
  have tA:(iZ r4).A=(jb e++40::(jb c++41::fH k))++40::((di X1 X2).A++41::(fH (0 - k)++jb c)):=by
    rw [←hall]
    show X2.A++(40::(X1.A++41::fH k)++(40::((di X1 X2).A++41::fH (0 - k))++(X1.A++[])))=_
    rw [t1,t2]
    simp only [List.append_assoc,List.append_nil,List.cons_append]
  have iA:=AA.is (by decide) zA
  rw [cA,tA] at iA
  have i1:=A1.is (by decide) (by rw [z1];omega)
  rw [c1',t1] at i1
  have i2:=A2.is (by decide) (by rw [z2];omega)
  rw [c2',t2] at i2
  have iT:=AT.is (by decide) (by rw [zT];omega)
  have iT':ax [iY X1.d k (X1.z*ay k), .list ((rp c k).map aJ), .str ⟨(40::(jb c++41::fH k)).toArray⟩]=some (.sh (.bool true)):=by
    have:=iT
    rw [show (jc X1 k (rp X1.c k)).c=rp c k by show rp X1.c k=_;rw [c1'],show (jc X1 k (rp X1.c k)).A=40::(jb c++41::fH k) by show 40::(X1.A++41::fH k)=_;rw [t1]] at this
    exact this
  have iB:=AB.is (by decide) (by rw [zB];omega)
  have iB':ax [nN X1.d X2.d (2*(X1.z+X2.z)), .list ((c++e++NH.contr c++NH.contr e).map aJ), .str ⟨(91::(jb c++44::(jb e++[93]))).toArray⟩]=some (.sh (.bool true)):=by
    have:=iB
    rw [cB,show (di X1 X2).A=91::(jb c++44::(jb e++[93])) by show 91::(X1.A++44::(X2.A++[93]))=_;rw [t1,t2]] at this
    exact this
  have iW:=AW.is (by decide) (Int.le_trans mW (by decide))
  have iW':ax [iY (di X1 X2).d (0 - k) ((di X1 X2).z*ay (0 - k)), .list ((rp (di X1 X2).c (0 - k)).map aJ), .str ⟨(40::((di X1 X2).A++41::fH (0 - k))).toArray⟩]=some (.sh (.bool true)):=iW
  have i0:=(tI (h:=0) (r:=[]) (fun _ z=>nomatch z) (by simp) (by simp)).is (by decide) (by decide)
  have i0':ax [td [] 0, .list [], .str ""]=some (.sh (.bool true)):=by
    have ez:(⟨(iZ []).A.toArray⟩:Str)=Str.ofString "":=by decide+kernel
    rw [ez] at i0
    exact i0
  have iL:=u8 A1 (by decide) (by rw [z1];omega) (ns.getD 4 0)
  rw [z1] at iL
  have x1t:=((A1.tx 31).tx)
  rw [t1] at x1t
  have x2t:=((A2.tx 31).tx)
  rw [t2] at x2t
  have K1:=(A1.co 0).tk
  have K2:=(A2.co 0).tk
  have KB:=(AB.co 0).tk
  have KT:=(AT.co 0).tk
  have KW:=(AW.co 0).tk
  have h6:=l6 ns (c:=c) (z:=(c.length:Int)) (h:=vL (by omega))
  have h8:=l8 ns (e:=e) (le:=by omega) (z:=(e.length:Int)) (h:=vL (by omega))
  rw [←d1] at h6
  rw [←d2] at h8
  have hp:∀E:List Sl,E[6]? =some (.sh X1.d)→jV ["Parts"] "parts" (ae 6) E=some (.sh (.int (c.length:Int)),E):=fun E hE=>by
    rw [d1] at hE
    refine ve hE (Nhk62.c1 _) ?_
    simp [oi]
  have m4:bo ai [.list [X2.d,iY X1.d k (X1.z*ay k),iY (di X1 X2).d (0 - k) ((di X1 X2).z*ay (0 - k)),X1.d]]=some [(.str "kept", .tuple (r4.map It.d)),(.str "size", .int (r4.map It.z).sum),(.tuple [.str "parts"], .int (r4.map It.d).length)]:=by
    have:=vK (r:=r4) (fun x hx=>((all x hx).co 0).tk) (by rw [←hall];simp)
    have e4:r4.map It.d=[X2.d,iY X1.d k (X1.z*ay k),iY (di X1 X2).d (0 - k) ((di X1 X2).z*ay (0 - k)),X1.d]:=by rw [←hall];rfl
    rw [e4] at this ⊢
    exact this
  obtain ⟨E,eE⟩:=AJ ns (x1:= .sh (.int W)) (x2:= .sh (.list (c.map aJ))) (x3:= .sh (.list (e.map aJ))) (x4:= .sh (.int k)) (x5:= .ow (c.map cP++[cP (113,7)])) (x6:= .sh X1.d) (x7:= .sh X2.d) (x8:= .ow [.str ⟨(jb c).toArray⟩, .str ⟨(jb e).toArray⟩]) (x9:= .sh (iY X1.d k (X1.z*ay k))) (x10:= .sh (.str ⟨(fH k).toArray⟩)) (x11:= .sh (nN X1.d X2.d (2*(X1.z+X2.z)))) (x13:= .sh (.str ⟨(91::(jb c++44::(jb e++[93]))).toArray⟩)) (x14:= .sh (iY (di X1 X2).d (0 - k) ((di X1 X2).z*ay (0 - k)))) (x15:= .sh (.str ⟨(fH (0 - k)).toArray⟩)) (h:=iA) (h2:=i0')
  have tB:(di X1 X2).A=91::(jb c++44::(jb e++[93])):=by show 91::(X1.A++44::(X2.A++[93]))=_;rw [t1,t2]
  have run:lj [SL ns, .no, .no, .no, .no, .no, .no, .no, .no, .no, .no, .no, .no, .no, .no, .no, .no, .no]=some (E, .rt (.sh (.bool true))):=by
    rw [tL,bc e0,bc (l1 ns (e:=ec) ..),bc (l2 ns (e:=ee) ..),bc (e3 ..),bc (l4 ns (c:=c) (lc:=by omega) ..),bc (l5 ns (h:=u_ c rc) ..),bc (h6 ..),bc (l7 ns (q:=c.map cP) (h:=eq_true (by rw [List.length_map];omega)) ..),bc (h8 ..)]
    rw [bc (l9 ns (h1:=gD c (fun p hp=>(rc p hp).2) (by omega)) (h2:=gD e (fun p hp=>(re p hp).2) (by omega)) ..),bc (Aq ns (lc:=eq_true (by omega)) (hp:=hp _ rfl) (h:=i1) ..),bc (Ar ns (h:=i2) ..),bc (As ns (hf:=K1.fl) (hz:=gd K1) (hm:=kT) ..),bc (At ns (hb:=kb) ..)]
    rw [bc (Av ns (h:=x1t) ..),bc (Aw ns (lA:=by omega) (lM:=by omega) (hc:=p1) (h:=iT') ..),bc (Ax ns (hf:=K1.fl) (hg:=K2.fl) (hz:=gd K1) (hy:=gd K2) ..),bc (zL ns (lc:=by omega) (le:=by omega) ..),bc (Ay ns (lA:=by omega) (lB:=by omega) ..)]
    rw [bc (Az ns (h1:=x1t) (h2:=x2t) (h:=iB') ..)]
    rw [show nN X1.d X2.d (2*(X1.z+X2.z))=(di X1 X2).d from rfl]
    rw [bc (AC ns (d:=(di X1 X2).d) (z:=(di X1 X2).z) (hf:=KB.fl) (hz:=gd KB) (hm:=kW) ..),bc (Au ns (hb:=kb) ..)]
    rw [←cB,←tB]
    rw [bc (AD ns (lV:=by omega) (lM:=by omega) (hc:=p2) (h:=iW') ..)]
    rw [bc (AE ns (d9:=iY X1.d k (X1.z*ay k)) (d14:=iY (di X1 X2).d (0 - k) ((di X1 X2).z*ay (0 - k))) (f6:=K1.fl) (f7:=K2.fl) (f9:=KT.fl) (f14:=KW.fl) (h:=m4) (hw:=(rfl:_=(iZ r4).d)) ..)]
    rw [bc (AF ns (la:=by omega) (lb:=by omega) (lc:=by omega) (le:=by omega) (ha:=p1) (hb:=p2) ..),bc (AG ns (lA:=by omega) (lB:=by omega) (lM:=by omega) ..),bc (AH ns (lU:=by simp only [List.length_append,List.length_cons];omega) (lA:=by omega) (lV:=by omega) (lM:=by omega) ..)]
    rw [bc (AI ns (lc:=eq_true (by omega)) (h:=iL) ..)]
    rw [tB] at eE ⊢
    exact eE
  simp only [g_,cO,List.length_cons,List.length_nil,if_true,aI]
  show ((lj [SL ns, .no, .no, .no, .no, .no, .no, .no, .no, .no, .no, .no, .no, .no, .no, .no, .no, .no]).bind _)=_
  rw [run]
  rfl
end Nhk62
namespace Nhk62
open PySem L2 Nh PL
open PySem.W (nsIn codeIn keepIn fnOf)
theorem om {fd:FuncData} {xs:List Str} (h:∀a0,bindArgs fd ⟨[a0],[]⟩=pure (xs.zip [a0])):∀us:List Value,us.length=1→bindArgs fd ⟨us,[]⟩=pure (xs.zip us)
  | [a0],_=>h a0
theorem jj {fd:FuncData} {xs:List Str} (h:∀a0 a1,bindArgs fd ⟨[a0,a1],[]⟩=pure (xs.zip [a0,a1])):∀us:List Value,us.length=2→bindArgs fd ⟨us,[]⟩=pure (xs.zip us)
  | [a0,a1],_=>h a0 a1
theorem yJ {fd:FuncData} {xs:List Str} (h:∀a0 a1 a2,bindArgs fd ⟨[a0,a1,a2],[]⟩=pure (xs.zip [a0,a1,a2])):∀us:List Value,us.length=3→bindArgs fd ⟨us,[]⟩=pure (xs.zip us)
  | [a0,a1,a2],_=>h a0 a1 a2
theorem zM {fd:FuncData} {xs:List Str} (h:∀a0 a1 a2 a3,bindArgs fd ⟨[a0,a1,a2,a3],[]⟩=pure (xs.zip [a0,a1,a2,a3])):∀us:List Value,us.length=4→bindArgs fd ⟨us,[]⟩=pure (xs.zip us)
  | [a0,a1,a2,a3],_=>h a0 a1 a2 a3
abbrev HD (K:PySem.W.Frag) (n:Str) (st:Stmt):Prop:=∃(f:Addr) (oc:Value) (od an:Option Addr) (sl:Array (Option Value)) (kV dc pm cd ct:Value),nsIn K mainGlobals n=some (some (.ref f))∧K.lookup f=some ⟨oc,od, .func (fnOf n n (b7 st) (bj st) (aj st) .none kV dc pm an cd ct),sl⟩∧codeIn K cd n=true∧keepIn K (.ref f)=true
theorem yK {K:PySem.W.Frag} {n:Str} {st:Stmt} {f:Addr} {oc:Value} {od an:Option Addr} {sl:Array (Option Value)} {kV dc pm cd ct:Value} (a:nsIn K mainGlobals n=some (some (.ref f))) (l:K.lookup f=some ⟨oc,od, .func (fnOf n n (b7 st) (bj st) (aj st) .none kV dc pm an cd ct),sl⟩) (c:codeIn K cd n=true) (k:keepIn K (.ref f)=true):HD K n st:=⟨f,oc,od,an,sl,kV,dc,pm,cd,ct,a,l,c,k⟩
theorem eF {K:PySem.W.Frag} {h:Heap} {mg:Str→Option Value} {x:Str} {st:Stmt} {ps:List Str} (d:HD K x st) (X:K.In h) (G:h.Ns mainGlobals mg) (b:∀(kV doc pm:Value) (an:Option Addr) (cdv ct:Value) (us:List Value),us.length=ps.length→bindArgs (fnOf x x (b7 st) (bj st) (aj st) .none kV doc pm an cdv ct) ⟨us,[]⟩=pure (ps.zip us)):Def K mg x st ps:=by
  obtain ⟨f,oc,od,an,sl,kV,dc,pm,cd,ct,a,l,c,k⟩:=d
  exact wq X G a l c k b
theorem qw {K:PySem.W.Frag} {C:Addr} (c1:nsIn K mainGlobals "Piece"=some (some (.ref C))) (c2:PySem.W.plainGet K C Str.empty=true) (c3:PySem.W.hasDictIn K C=true) (c4:PySem.W.plainOver K C=true) (c5:PySem.W.findIn K (.ref C) "__setattr__"=some (some (.builtin "object.__setattr__"))) (c6:PySem.W.makesIn K C=true) (c7:keepIn K (.ref C)=true) (n1:PySem.W.findIn K (.ref C) "nail"=some none) (n2:PySem.W.findIn K (.ref C) "turns"=some none) (n3:PySem.W.findIn K (.ref C) "size"=some none) (m1:HM K C "pieces" "Term.pieces" a8) (m2:HM K C "cord" "Term.cord" bw) (m3:HM K C "made" "Piece.made" eP) (m4:HM K C "text" "Piece.text" eQ) (m5:HM K C "__init__" "Piece.__init__" eW):mj K:=⟨C,⟨c1,c2,c3,c4,c5,c6,c7⟩,n1,n2,n3,m1,m2,m3,m4,m5⟩
theorem qx {K:PySem.W.Frag} {C:Addr} (c1:nsIn K mainGlobals "Parts"=some (some (.ref C))) (c2:PySem.W.plainGet K C Str.empty=true) (c3:PySem.W.hasDictIn K C=true) (c4:PySem.W.plainOver K C=true) (c5:PySem.W.findIn K (.ref C) "__setattr__"=some (some (.builtin "object.__setattr__"))) (c6:PySem.W.makesIn K C=true) (c7:keepIn K (.ref C)=true) (n1:PySem.W.findIn K (.ref C) "parts"=some none) (n2:PySem.W.findIn K (.ref C) "kept"=some none) (n3:PySem.W.findIn K (.ref C) "size"=some none) (m1:HM K C "pieces" "Term.pieces" a8) (m2:HM K C "cord" "Term.cord" bw) (m3:HM K C "made" "Parts.made" eS) (m4:HM K C "text" "Parts.text" eT) (m5:HM K C "__init__" "Parts.__init__" eX):mn K:=⟨C,⟨c1,c2,c3,c4,c5,c6,c7⟩,n1,n2,n3,m1,m2,m3,m4,m5⟩
theorem qy {K:PySem.W.Frag} {C:Addr} (c1:nsIn K mainGlobals "Times"=some (some (.ref C))) (c2:PySem.W.plainGet K C Str.empty=true) (c3:PySem.W.hasDictIn K C=true) (c4:PySem.W.plainOver K C=true) (c5:PySem.W.findIn K (.ref C) "__setattr__"=some (some (.builtin "object.__setattr__"))) (c6:PySem.W.makesIn K C=true) (c7:keepIn K (.ref C)=true) (n1:PySem.W.findIn K (.ref C) "body"=some none) (n2:PySem.W.findIn K (.ref C) "number"=some none) (n3:PySem.W.findIn K (.ref C) "size"=some none) (m1:HM K C "pieces" "Term.pieces" a8) (m2:HM K C "cord" "Term.cord" bw) (m3:HM K C "made" "Times.made" eU) (m4:HM K C "text" "Times.text" eV) (m5:HM K C "__init__" "Times.__init__" eY):mq K:=⟨C,⟨c1,c2,c3,c4,c5,c6,c7⟩,n1,n2,n3,m1,m2,m3,m4,m5⟩
theorem tN {K:PySem.W.Frag} {C:Addr} (c1:nsIn K mainGlobals "Back"=some (some (.ref C))) (c2:PySem.W.plainGet K C Str.empty=true) (c3:PySem.W.hasDictIn K C=true) (c4:PySem.W.plainOver K C=true) (c5:PySem.W.findIn K (.ref C) "__setattr__"=some (some (.builtin "object.__setattr__"))) (c6:PySem.W.makesIn K C=true) (c7:keepIn K (.ref C)=true) (n1:PySem.W.findIn K (.ref C) "one"=some none) (n2:PySem.W.findIn K (.ref C) "other"=some none) (n3:PySem.W.findIn K (.ref C) "size"=some none) (m1:HM K C "pieces" "Term.pieces" a8) (m2:HM K C "cord" "Term.cord" bw) (m3:HM K C "made" "Back.made" fz) (m4:HM K C "text" "Back.text" fA) (m5:HM K C "__init__" "Back.__init__" fB):oA K:=⟨C,⟨c1,c2,c3,c4,c5,c6,c7⟩,n1,n2,n3,m1,m2,m3,m4,m5⟩
def yL (K:PySem.W.Frag):Prop:=∃D,nsIn K mainGlobals "Term"=some (some (.ref D))∧IsRow K D tab_is_Term
theorem xz {K:PySem.W.Frag} {D:Addr} (a0:nsIn K mainGlobals "Term"=some (some (.ref D))) (hn:PySem.W.specialIn K (.builtin "object.__class__") "__get__"=some (some (.builtin "getset_descriptor.__get__"))) (ht:PySem.W.takesIn K (.builtin "object.__class__")=some true) {CPiece:Addr} (aPiece:nsIn K mainGlobals "Piece"=some (some (.ref CPiece))) (bPiece:PySem.W.plainGet K CPiece "__class__"=true) (dPiece:PySem.W.hasDictIn K CPiece=true) (ePiece:PySem.W.findIn K (.ref CPiece) "__class__"=some (some (.builtin "object.__class__"))) (mPiece:PySem.W.mroIn K CPiece (.type "object")=some true) (kPiece:PySem.W.kitOne K (.ref CPiece) (.ref D)=some true) {CParts:Addr} (aParts:nsIn K mainGlobals "Parts"=some (some (.ref CParts))) (bParts:PySem.W.plainGet K CParts "__class__"=true) (dParts:PySem.W.hasDictIn K CParts=true) (eParts:PySem.W.findIn K (.ref CParts) "__class__"=some (some (.builtin "object.__class__"))) (mParts:PySem.W.mroIn K CParts (.type "object")=some true) (kParts:PySem.W.kitOne K (.ref CParts) (.ref D)=some true) {CTimes:Addr} (aTimes:nsIn K mainGlobals "Times"=some (some (.ref CTimes))) (bTimes:PySem.W.plainGet K CTimes "__class__"=true) (dTimes:PySem.W.hasDictIn K CTimes=true) (eTimes:PySem.W.findIn K (.ref CTimes) "__class__"=some (some (.builtin "object.__class__"))) (mTimes:PySem.W.mroIn K CTimes (.type "object")=some true) (kTimes:PySem.W.kitOne K (.ref CTimes) (.ref D)=some true) {CBack:Addr} (aBack:nsIn K mainGlobals "Back"=some (some (.ref CBack))) (bBack:PySem.W.plainGet K CBack "__class__"=true) (dBack:PySem.W.hasDictIn K CBack=true) (eBack:PySem.W.findIn K (.ref CBack) "__class__"=some (some (.builtin "object.__class__"))) (mBack:PySem.W.mroIn K CBack (.type "object")=some true) (kBack:PySem.W.kitOne K (.ref CBack) (.ref D)=some true):yL K:=⟨D,a0,(.cons aPiece ⟨bPiece,dPiece,ePiece,hn,ht,mPiece⟩ kPiece (.cons aParts ⟨bParts,dParts,eParts,hn,ht,mParts⟩ kParts (.cons aTimes ⟨bTimes,dTimes,eTimes,hn,ht,mTimes⟩ kTimes (.cons aBack ⟨bBack,dBack,eBack,hn,ht,mBack⟩ kBack .nil))))⟩
theorem tO {K:PySem.W.Frag} {b:Addr}:∀l:List (Str×Str),(∀n∈l,nsIn K mainGlobals n.1=some none)→tT K b l=none
  | [],_=>rfl
  | n::r,h=>by
    have e:qE K n.1=none:=by
      unfold qE
      rw [h n (List.mem_cons_self ..)]
    unfold tT
    rw [e,if_neg nofun]
    exact tO r fun m hm=>h m (List.mem_cons_of_mem _ hm)
theorem vf {K:PySem.W.Frag} {h:Heap} (t0:nsIn K mainGlobals "in_told_order"=some none) (t1:nsIn K mainGlobals "_law_moves_refused"=some none) (t2:nsIn K mainGlobals "_law_long_refused"=some none) (t3:nsIn K mainGlobals "_law_sets_refused"=some none) (t4:nsIn K mainGlobals "_law_cords_refused"=some none) (t5:nsIn K mainGlobals "_law_many_refused"=some none) (t6:nsIn K mainGlobals "_law_two_refused"=some none) (t7:nsIn K mainGlobals "_law_at_least_refused"=some none):L2.pe K h:=fun b q z=>by
  unfold jy at z
  rw [tO _ fun n hn=>by
    unfold vi at hn
    simp only [List.mem_cons,List.not_mem_nil,or_false] at hn
    rcases hn with rfl | rfl | rfl | rfl | rfl | rfl | rfl | rfl
    · exact t0
    · exact t1
    · exact t2
    · exact t3
    · exact t4
    · exact t5
    · exact t6
    · exact t7] at z
  cases z
theorem xA {l:PySem.W.OpenLaw} {w:World} {K:PySem.W.Frag} {h:Heap} {mg:Str→Option Value} {fa:Addr} (X:K.In h) (G:h.Ns mainGlobals mg) (hfa:mg "law"=some (.ref fa)) (B:Bn mg) (hPiece:mj K) (hParts:mn K) (hTimes:mq K) (hBack:oA K) (his:yL K)
    (d1:HD K "contrary" fZ)
    (d2:HD K "number_text" dS)
    (d3:HD K "repeated" f8)
    (d4:HD K "there_and_back" cL)
    (d5:HD K "_law_at" iw)
    (d6:HD K "_law_mix" gO)
    (d7:HD K "_law_digit" fD)
    (d8:HD K "_law_cord" f_)
    (d9:HD K "_law_contrary" dB)
    (d10:HD K "_law_right" fE)
    (d11:HD K "_law_text" gb)
    (d12:HD K "_law_is" ix)
    (d13:HD K "_law_times" fF)
    (d14:HD K "_law_too_long" dC)
    (d15:HD K "_law_long" gc)
    (d16:HD K "_law_singles" dW)
    (d17:HD K "law" j5)
    {t_LONGEST:Tok} (g_LONGEST:PySem.W.nsIn K mainGlobals "LONGEST"=some (some (.int 4000 t_LONGEST)))
    {ec_NoCord ec_NoText ec_TooMany ec_TooLong ec_Term ec_Piece ec_Parts ec_Times ec_Back ec_HangError:Addr}
    (qc_NoCord:PySem.W.nsIn K mainGlobals "NoCord"=some (some (.ref ec_NoCord)))
    (qc_NoText:PySem.W.nsIn K mainGlobals "NoText"=some (some (.ref ec_NoText)))
    (qc_TooMany:PySem.W.nsIn K mainGlobals "TooMany"=some (some (.ref ec_TooMany)))
    (qc_TooLong:PySem.W.nsIn K mainGlobals "TooLong"=some (some (.ref ec_TooLong)))
    (qc_Term:PySem.W.nsIn K mainGlobals "Term"=some (some (.ref ec_Term)))
    (qc_Piece:PySem.W.nsIn K mainGlobals "Piece"=some (some (.ref ec_Piece)))
    (qc_Parts:PySem.W.nsIn K mainGlobals "Parts"=some (some (.ref ec_Parts)))
    (qc_Times:PySem.W.nsIn K mainGlobals "Times"=some (some (.ref ec_Times)))
    (qc_Back:PySem.W.nsIn K mainGlobals "Back"=some (some (.ref ec_Back)))
    (qc_ValueError:PySem.W.nsIn K mainGlobals "ValueError"=some none)
    (qc_HangError:PySem.W.nsIn K mainGlobals "HangError"=some (some (.ref ec_HangError)))
    (w1_TooLong:PySem.W.excIn K ec_TooLong z_ "ValueError.__new__"=true)
    (w2_TooLong:(PySem.W.clsIn K ec_TooLong).isSome=true)
    (w3_TooLong:PySem.W.findIn K (.ref ec_TooLong) "__getattribute__"=some (some (.builtin "BaseException.__getattribute__")))
    (w4_TooLong:PySem.W.findIn K (.ref ec_TooLong) "__getattr__"=some none)
    (w5_TooLong:PySem.W.findIn K (.ref ec_TooLong) "__class__"=some (some (.builtin "object.__class__")))
    (w6_TooLong:PySem.W.mroIn K ec_TooLong (.type "BaseException")=some true)
    (w7_TooLong:PySem.W.mroIn K ec_TooLong (.type "object")=some true)
    (y_TooLong_NoCord:PySem.W.kitOne K (.ref ec_TooLong) (.ref ec_NoCord)=some false)
    (y_TooLong_NoText:PySem.W.kitOne K (.ref ec_TooLong) (.ref ec_NoText)=some false)
    (y_TooLong_TooMany:PySem.W.kitOne K (.ref ec_TooLong) (.ref ec_TooMany)=some false)
    (y_TooLong_TooLong:PySem.W.kitOne K (.ref ec_TooLong) (.ref ec_TooLong)=some true)
    (y_TooLong_Term:PySem.W.kitOne K (.ref ec_TooLong) (.ref ec_Term)=some false)
    (y_TooLong_Piece:PySem.W.kitOne K (.ref ec_TooLong) (.ref ec_Piece)=some false)
    (y_TooLong_Parts:PySem.W.kitOne K (.ref ec_TooLong) (.ref ec_Parts)=some false)
    (y_TooLong_Times:PySem.W.kitOne K (.ref ec_TooLong) (.ref ec_Times)=some false)
    (y_TooLong_Back:PySem.W.kitOne K (.ref ec_TooLong) (.ref ec_Back)=some false)
    (y_TooLong_ValueError:PySem.W.kitOne K (.ref ec_TooLong) (.type "ValueError")=some true)
    (y_TooLong_HangError:PySem.W.exmOne K (.ref ec_TooLong) (.ref ec_HangError)=some true):
    ∃fd:FuncData,(∀(s:Shared) (v:Value),BindsTo s fd ⟨[v],[]⟩ [("_law_script",v)])∧∀base:Heap,K.In base→base.Ns mainGlobals mg→FnOk l.prog w K mg base gT 73 fa fd ["_law_script"] (dh K g_):=by
  obtain ⟨f17,oc17,od17,an17,sl17,kV17,dc17,pm17,cd17,ct17,a17,zL,c17,k17⟩:=id d17
  have e:=hfa.symm.trans (PySem.W.mg_of X G a17)
  cases e
  have F0:=iH (st:=j5) zL c17 k17
  have G_LONGEST:=PySem.W.mg_of X G g_LONGEST
  have Z_TooLong:ExCls K ec_TooLong:=⟨Option.isSome_iff_exists.mp w2_TooLong,w3_TooLong,w4_TooLong,w5_TooLong,w6_TooLong,w7_TooLong⟩
  have XX:XF K mg:=⟨⟨ec_NoCord,PySem.W.mg_of X G qc_NoCord,(dO qc_TooLong Z_TooLong y_TooLong_NoCord fG)⟩,⟨ec_NoText,PySem.W.mg_of X G qc_NoText,(dO qc_TooLong Z_TooLong y_TooLong_NoText fG)⟩,⟨ec_TooMany,PySem.W.mg_of X G qc_TooMany,(dO qc_TooLong Z_TooLong y_TooLong_TooMany fG)⟩,⟨ec_TooLong,PySem.W.mg_of X G qc_TooLong,(dO qc_TooLong Z_TooLong y_TooLong_TooLong fG),⟨qc_TooLong,PySem.W.mg_of X G qc_TooLong,w1_TooLong,Z_TooLong⟩⟩,⟨ec_Term,PySem.W.mg_of X G qc_Term,(dO qc_TooLong Z_TooLong y_TooLong_Term fG)⟩,⟨ec_Piece,PySem.W.mg_of X G qc_Piece,(dO qc_TooLong Z_TooLong y_TooLong_Piece fG)⟩,⟨ec_Parts,PySem.W.mg_of X G qc_Parts,(dO qc_TooLong Z_TooLong y_TooLong_Parts fG)⟩,⟨ec_Times,PySem.W.mg_of X G qc_Times,(dO qc_TooLong Z_TooLong y_TooLong_Times fG)⟩,⟨ec_Back,PySem.W.mg_of X G qc_Back,(dO qc_TooLong Z_TooLong y_TooLong_Back fG)⟩,⟨PySem.W.mg_none_of X G qc_ValueError,(dO qc_TooLong Z_TooLong y_TooLong_ValueError fG)⟩,⟨ec_HangError,PySem.W.mg_of X G qc_HangError,fun n hn D hD=>by
    simp only [List.mem_cons,List.not_mem_nil,or_false] at hn
    rcases hn with rfl
    · rw [qc_TooLong] at hD;cases hD;exact y_TooLong_HangError⟩⟩
  have e_contrary:Def K mg "contrary" fZ ["cord"]:=eF d1 X G fun _ _ _ _ _ _=>fun us hl=>om (fun _=>rfl) us hl
  have e_number_text:Def K mg "number_text" dS ["number"]:=eF d2 X G fun _ _ _ _ _ _=>fun us hl=>om (fun _=>rfl) us hl
  have e_repeated:Def K mg "repeated" f8 ["cord","times"]:=eF d3 X G fun _ _ _ _ _ _=>fun us hl=>jj (fun _ _=>rfl) us hl
  have e_there_and_back:Def K mg "there_and_back" cL ["one","other"]:=eF d4 X G fun _ _ _ _ _ _=>fun us hl=>jj (fun _ _=>rfl) us hl
  have e_law_at:Def K mg "_law_at" iw ["_law_script","_law_k"]:=eF d5 X G fun _ _ _ _ _ _=>fun us hl=>jj (fun _ _=>rfl) us hl
  have e_law_mix:Def K mg "_law_mix" gO ["_law_cell","_law_k"]:=eF d6 X G fun _ _ _ _ _ _=>fun us hl=>jj (fun _ _=>rfl) us hl
  have e_law_digit:Def K mg "_law_digit" fD ["_law_rest","_law_m"]:=eF d7 X G fun _ _ _ _ _ _=>fun us hl=>jj (fun _ _=>rfl) us hl
  have e_law_cord:Def K mg "_law_cord" f_ ["_law_cell","_law_nails_here","_law_wide_here","_law_most"]:=eF d8 X G fun _ _ _ _ _ _=>fun us hl=>zM (fun _ _ _ _=>rfl) us hl
  have e_law_contrary:Def K mg "_law_contrary" dB ["_law_cord_here"]:=eF d9 X G fun _ _ _ _ _ _=>fun us hl=>om (fun _=>rfl) us hl
  have e_law_right:Def K mg "_law_right" fE ["_law_found","_law_due"]:=eF d10 X G fun _ _ _ _ _ _=>fun us hl=>jj (fun _ _=>rfl) us hl
  have e_law_text:Def K mg "_law_text" gb ["_law_cord_here"]:=eF d11 X G fun _ _ _ _ _ _=>fun us hl=>om (fun _=>rfl) us hl
  have e_law_is:Def K mg "_law_is" ix ["_law_term","_law_cord_here","_law_words"]:=eF d12 X G fun _ _ _ _ _ _=>fun us hl=>yJ (fun _ _ _=>rfl) us hl
  have e_law_times:Def K mg "_law_times" fF ["_law_cord_here","_law_number"]:=eF d13 X G fun _ _ _ _ _ _=>fun us hl=>jj (fun _ _=>rfl) us hl
  have e_law_too_long:Def K mg "_law_too_long" dC ["_law_term","_law_many"]:=eF d14 X G fun _ _ _ _ _ _=>fun us hl=>jj (fun _ _=>rfl) us hl
  have e_law_long:Def K mg "_law_long" gc ["_law_parts","_law_many","_law_cell"]:=eF d15 X G fun _ _ _ _ _ _=>fun us hl=>yJ (fun _ _ _=>rfl) us hl
  have e_law_singles:Def K mg "_law_singles" dW ["_law_pieces","_law_one"]:=eF d16 X G fun _ _ _ _ _ _=>fun us hl=>jj (fun _ _=>rfl) us hl
  refine ⟨PySem.W.fnOf "law" "law" (b7 j5) (bj j5) (aj j5) .none kV17 dc17 pm17 an17 cd17 ct17,fun s v=> .of_eq rfl,fun base _ _=>?_⟩
  obtain ⟨DIs,aIs,rIs⟩:=his
  have D_is_Term:=And.intro (PySem.W.mg_of X G aIs) rIs
  have D_contrary:=ny (P:=l.prog) (w:=w) (base:=base) e_contrary B
  have D_number_text:=j2 (P:=l.prog) (w:=w) (base:=base) e_number_text B
  have D_repeated:=nC (P:=l.prog) (w:=w) (base:=base) e_repeated B D_contrary
  have D_there_and_back:=ir (P:=l.prog) (w:=w) (base:=base) e_there_and_back B D_contrary
  obtain ⟨D_mk_Piece,D_mk_Parts,D_mk_Times,D_mk_Back,D_m_pieces,D_m_text,D_m_cord,R_m_cord,D_fl_nail,D_fl_turns,D_fl_number,D_fl_body,D_fl_one,D_fl_other,D_fl_parts⟩:=u5 (P:=l.prog) (w:=w) (base:=base) X G B XX hPiece hParts hTimes hBack G_LONGEST D_number_text D_repeated D_there_and_back
  have D_law_at:=qu (P:=l.prog) (w:=w) (base:=base) e_law_at B
  have D_law_mix:=oB (P:=l.prog) (w:=w) (base:=base) e_law_mix B
  have D_law_digit:=mv (P:=l.prog) (w:=w) (base:=base) e_law_digit B
  have D_law_cord:=nD (P:=l.prog) (w:=w) (base:=base) e_law_cord B D_law_digit D_law_mix
  have D_law_contrary:=jl (P:=l.prog) (w:=w) (base:=base) e_law_contrary B
  have D_law_right:=mw (P:=l.prog) (w:=w) (base:=base) e_law_right B
  have D_law_text:=nE (P:=l.prog) (w:=w) (base:=base) e_law_text B
  have D_law_is:=qv (P:=l.prog) (w:=w) (base:=base) e_law_is B D_is_Term D_m_pieces D_m_cord D_law_right D_m_text
  have D_law_times:=my (P:=l.prog) (w:=w) (base:=base) e_law_times B D_law_contrary
  have D_law_too_long:=jm (P:=l.prog) (w:=w) (base:=base) e_law_too_long B D_m_pieces D_m_cord R_m_cord XX
  have D_law_long:=nG (P:=l.prog) (w:=w) (base:=base) e_law_long B D_mk_Times D_m_cord D_law_too_long D_mk_Piece D_mk_Back
  have D_law_singles:=j4 (P:=l.prog) (w:=w) (base:=base) e_law_singles B D_fl_nail D_fl_turns D_law_text D_law_is
  exact wZ F0 B D_law_at D_law_cord D_mk_Piece D_law_singles D_mk_Parts D_law_text D_fl_parts D_law_is D_mk_Times D_fl_number D_fl_body D_m_text D_law_times D_mk_Back D_law_contrary D_fl_one D_fl_other D_law_long
theorem zN {l:PySem.W.OpenLaw} {q:Program} {loose:List Str} {XP:(Str→Option Value)→Heap→Prop} {YP:World→Heap→Prop} {d:DefRec} {K:Params→PySem.W.Frag} (hn:l.most=some 63) (hdf:d.params.defaults=[])
    (hY:∀(w:World) (h:Heap),YP w h→(K w.params).In h∧pe (K w.params) h)
    (F:∀(w:World) (mg:Str→Option Value) (fa:Addr) (h:Heap),(K w.params).In h→h.Ns mainGlobals mg→mg d.name=some (.ref fa)→
      ∃fd:FuncData,(∀(s:Shared) (u:Value),BindsTo s fd ⟨[u],[]⟩ [("_law_script",u)])∧∀base:Heap,(K w.params).In base→base.Ns mainGlobals mg→FnOk l.prog w (K w.params) mg base gT 73 fa fd ["_law_script"] (dh (K w.params) g_)):
    PySem.W.WalkO q loose XP YP l.row.toRowW d [] (fun f vs=>PySem.call f vs):=
  L2.sr (n:=63) (k:=73) (x:="_law_script") (CX:=fun _=>gT) (sp:=fun w=>dh (K w.params) g_) hn (by decide) hdf ⟨rfl,by decide,by decide⟩ hY F (fun _ _ a ns hl hS=>wF (xy ns hl) hS) fun _ _ _ _ _ z=>z
end Nhk62
open PySem PySem.W PyProof.Rows
namespace PySem.W.Fast
def tw1346458155251163168:=0
def tw15153946000787861600:=0
def tw1578970355036796032:=0
def tw17807084649911801120:=0
def tw16791340629797170592:=0
def tw9342431840696070592:=0
def tw4374490015562439328:=0
def tw10887020920778775232:=0
def tw561640214640387137:=0
def tw16453274434729085089:=0
def tw1277498817630264737:=0
def tw11506108074808197569:=0
def tw1032461268393541089:=0
def tw5371194168321564193:=0
def tw3924233860632368705:=0
def tw1383676569606819457:=0
def tw4708220960857178753:=0
def tw14547852571548270497:=0
def tw16959093069207031745:=0
def tw7223400682270056385:=0
def tw16994113540099870786:=0
def tw10543583599992470754:=0
def tw14873869567332133186:=0
def tw5329946307208883842:=0
def tw15683154275008383778:=0
def tw12545429232764353346:=0
def tw1368844319560126338:=0
def tw2808535311879226306:=0
def tw3200635938474348547:=0
def tw14282982335939613763:=0
def tw17174982717832113219:=0
def tw15367745542478983363:=0
def tw3786147419481483587:=0
def tw10205541789690730915:=0
def tw1358184616547627587:=0
def tw15974717672233712740:=0
def tw1375535995576139204:=0
def tw13027274826025074212:=0
def tw12027012415685114628:=0
def tw10511397003633185572:=0
def tw16921324924679403300:=0
def tw13489714076340613956:=0
def tw18295911241340659652:=0
def tw13271513799979626533:=0
def tw13809688843157301413:=0
def tw6348155858416559333:=0
def tw15893235781897081093:=0
def tw10222889543416157605:=0
def tw4373399373938017893:=0
def tw11422521913003446917:=0
def tw16371956417394263813:=0
def tw5465021659105608549:=0
def tw1344632513161793477:=0
def tw11750760047523821670:=0
def tw1930735665285134470:=0
def tw5424354242453488870:=0
def tw14061656696917638470:=0
def tw16448165685151782406:=0
def tw4718246068168833606:=0
def tw1429840319714074278:=0
def tw16171789500030146310:=0
def tw4225591152128765766:=0
def tw14995721203076700070:=0
def tw7507510846913437638:=0
def tw14363388060539003878:=0
def tw7928794974363577415:=0
def tw7066080224446406759:=0
def tw10375059796021469351:=0
def tw1749931182900391143:=0
def tw15821204605709847815:=0
def tw18320298310800450983:=0
def tw2246123029869019847:=0
def tw3021061672260001479:=0
def tw6835435674142515975:=0
def tw1939559773708249959:=0
def tw15132026576790066055:=0
def tw1760968602918462343:=0
def tw14276291945286582247:=0
def tw18329544472814561320:=0
def tw8722773246554526792:=0
def tw5927134001472699496:=0
def tw2430858337982188712:=0
def tw812070541181968648:=0
def tw11425049206452704808:=0
def tw10804003432338426408:=0
def tw4179781810324097608:=0
def tw10838692154109246120:=0
def tw2939275506998329000:=0
def tw14393025064896330408:=0
def tw17969205309860881224:=0
def tw11018806593844419496:=0
def tw83103074961006504:=0
def tw6177190682577269833:=0
def tw17687432063982267625:=0
def tw5195451055119850793:=0
def tw12063134281608876457:=0
def tw3593138677327458761:=0
def tw11103832159854741033:=0
def tw10590848666186064425:=0
def tw6426608436578747081:=0
def tw15405323395975595913:=0
def tw9705040338790821865:=0
def tw6851622209732588682:=0
def tw9476320744110107850:=0
def tw11552625631772571882:=0
def tw18380358794917501194:=0
def tw6301735793223130410:=0
def tw11760571885524969770:=0
def tw236600036572281194:=0
def tw17275033694008060298:=0
def tw7703169957331302858:=0
def tw9671749064051506762:=0
def tw15529516815861432938:=0
def tw8154286613225709194:=0
def tw10538997934026704586:=0
def tw334173409285301002:=0
def tw2725908278157045578:=0
def tw12842014574716260234:=0
def tw13624059255055814570:=0
def tw17017069729091424299:=0
def tw16243229440330306731:=0
def tw5828933770137428299:=0
def tw15474968814179377611:=0
def tw5996716272463868651:=0
def tw5374567574629630699:=0
def tw11481355852958485291:=0
def tw11204487927217306571:=0
def tw11182659344361323660:=0
def tw534297925455297708:=0
def tw13018329740839790924:=0
def tw16822232250488514956:=0
def tw3236162154784094636:=0
def tw6374805722568162796:=0
def tw10680258745636014636:=0
def tw7427230416105192204:=0
def tw6377572800072845292:=0
def tw16372807496295386221:=0
def tw1870187611599566093:=0
def tw9751385273537933613:=0
def tw9881347978995745069:=0
def tw16706549083667005773:=0
def tw5753397019650993485:=0
def tw16997866020366835085:=0
def tw578052399363672493:=0
def tw15581187701237373389:=0
def tw1857827313340137965:=0
def tw1598262938097913389:=0
def tw18207224985756833453:=0
def tw15105768152027399885:=0
def tw9130328907835899918:=0
def tw3871192283648594990:=0
def tw5110867351313484910:=0
def tw7878075444133652782:=0
def tw16333178864616502574:=0
def tw9802506333374073166:=0
def tw6870580083850346830:=0
def tw8978131620428138862:=0
def tw5154512840004785710:=0
def tw1509432514147362446:=0
def tw16049206181181691566:=0
def tw12710955457118775150:=0
def tw15042122849204248494:=0
def tw2511739998890143694:=0
def tw11208731446565178415:=0
def tw11297309400482062415:=0
def tw1143594721511308591:=0
def tw9832510066624560687:=0
def tw6843895067063076463:=0
def tw3159897417274312335:=0
def tw8875347175366124271:=0
def tw9584214134860302127:=0
def tw16432390464020210511:=0
def tw16475153578528245647:=0
def tw14151190344162839535:=0
def tw15355879197587383568:=0
def tw15162857880939000112:=0
def tw10734533633439220176:=0
def tw13191506549304945104:=0
def tw13684639326842867216:=0
def tw5635610233607036432:=0
def tw16172958721847850608:=0
def tw4190306083258795664:=0
def tw4495566530711036592:=0
def tw15361482952389759696:=0
def tw2725491704880702256:=0
def tw13662904066784182192:=0
def tw16413413430799342576:=0
def tw2117608285412192369:=0
def tw5980338928017957009:=0
def tw3794052627982153041:=0
def tw5541967891172440753:=0
def tw11063897213348536113:=0
def tw6715757997824604081:=0
def tw4835244247167245458:=0
def tw1881963311149256882:=0
def tw15494093948660116690:=0
def tw16306954310636929266:=0
def tw17436023407431153938:=0
def tw2507412033132763410:=0
def tw6718430766890964306:=0
def tw8880248208920323858:=0
def tw17898375176507898738:=0
def tw7688085232865896434:=0
def tw16064046820477660146:=0
def tw8785668426040076435:=0
def tw1449716446585686195:=0
def tw18111934397495863475:=0
def tw10125520979053317395:=0
def tw7677645584849865011:=0
def tw5134759083729571123:=0
def tw13934291302180092211:=0
def tw491047499757692243:=0
def tw13342957572155715923:=0
def tw10514763801463693683:=0
def tw17843221914374380979:=0
def tw16483336884321358323:=0
def tw17248357363506324115:=0
def tw9252530467157265075:=0
def tw987811158507902643:=0
def tw3731632070515715923:=0
def tw14362288632687322035:=0
def tw18182721729975654452:=0
def tw5900242418189431956:=0
def tw2881874577997950132:=0
def tw5540559972921284884:=0
def tw1832073644713183572:=0
def tw7652850954405652852:=0
def tw3746136297112922580:=0
def tw743982989719753236:=0
def tw10704767418156206644:=0
def tw727780547245353652:=0
def tw14040282827266280148:=0
def tw11045861759092439892:=0
def tw7459116397868264308:=0
def tw3250992402777162676:=0
def tw6672225998085881780:=0
def tw14442890392436177876:=0
def tw10593230147738075124:=0
def tw602359637881959573:=0
def tw1116285634252157077:=0
def tw7056178888241859733:=0
def tw12959489841316730037:=0
def tw12737440831453273653:=0
def tw2795011592601544277:=0
def tw748541147204994805:=0
def tw7772251052617705333:=0
def tw4391408967713923029:=0
def tw648559429857956022:=0
def tw1231890055462282454:=0
def tw9324352481306576182:=0
def tw17146103363818127670:=0
def tw8619858985182661046:=0
def tw11190126580273584854:=0
def tw84209968683547382:=0
def tw17012630510464664342:=0
def tw7980256364079366966:=0
def tw8048290438195415862:=0
def tw1158192428148677462:=0
def tw3667324427811938198:=0
def tw15382018176832867254:=0
def tw9025709363818157111:=0
def tw14780470751512859703:=0
def tw9904858930826587287:=0
def tw815805729121462615:=0
def tw13793130164732465495:=0
def tw2581840165540015543:=0
def tw10965030107778524631:=0
def tw1291504485524190743:=0
def tw10794821211515931191:=0
def tw6088356980409517719:=0
def tw10490452927359124247:=0
def tw1260664966525545303:=0
def tw8536911238240367479:=0
def tw8070537420935141271:=0
def tw15888741874477584279:=0
def tw15170148998100707319:=0
def tw7687819675777372216:=0
def tw4584866900239498296:=0
def tw15013434759441299576:=0
def tw11162052273053514872:=0
def tw1349550285303564440:=0
def tw2444459193366195384:=0
def tw13256439792342763864:=0
def tw12520625852126266904:=0
def tw10983075020012561976:=0
def tw2482483941013223032:=0
def tw907778935845313176:=0
def tw6658796031255520952:=0
def tw7188562909795238712:=0
def tw16714827473419221912:=0
def tw4138844586547817497:=0
def tw17023398585739376665:=0
def tw11084178456384397401:=0
def tw6468219475247573145:=0
def tw16842687393313199289:=0
def tw7262285540467449145:=0
def tw12697645829334745433:=0
def tw8812166089524237721:=0
def tw1571872851095686617:=0
def tw1316820159542553113:=0
def tw16338497654705772089:=0
def tw3919870420734850649:=0
def tw17929308849166662361:=0
def tw16918351692601817849:=0
def tw17483281292599999257:=0
def tw6502933634540579673:=0
def tw6713141454763683737:=0
def tw12573887803121175481:=0
def tw9634018136157128665:=0
def tw740955115276326873:=0
def tw14071627740821784634:=0
def tw13044757477680014522:=0
def tw13769782398722033882:=0
def tw4889651891829814618:=0
def tw10139118451060530650:=0
def tw3074110892926103034:=0
def tw10884437061002057210:=0
def tw17038404630687842874:=0
def tw12116663417009899066:=0
def tw1941849558574093882:=0
def tw6782181855240410906:=0
def tw11005190954330044282:=0
def tw9997796209876759579:=0
def tw1912414753237986363:=0
def tw10649172852448535771:=0
def tw5814968553520849563:=0
def tw8223288250154433371:=0
def tw2680363723228469115:=0
def tw10482631326675675260:=0
def tw17200482132347932828:=0
def tw10478782680284431548:=0
def tw11748723789891584188:=0
def tw18272602879509583132:=0
def tw13720376960360632636:=0
def tw7148653550532493788:=0
def tw3806466830348520124:=0
def tw12465126931710592860:=0
def tw10180937747859351516:=0
def tw1535888297073170428:=0
def tw5341775121924109341:=0
def tw845750523541551229:=0
def tw10442854560355221693:=0
def tw6712197103584378045:=0
def tw13958002756397380829:=0
def tw8470591372861256989:=0
def tw7577193765314705693:=0
def tw6906169694502602013:=0
def tw17307694594004666173:=0
def tw14507018370824469405:=0
def tw14792047806658173150:=0
def tw17709317465852922110:=0
def tw8565967091078179166:=0
def tw13644098695955031422:=0
def tw3960930816002515422:=0
def tw13195259955548669406:=0
def tw15549328459615236606:=0
def tw15417115732175752766:=0
def tw745640774145830526:=0
def tw16569726777149003518:=0
def tw12300158469243487998:=0
def tw12279868809020256062:=0
def tw4790181640414370654:=0
def tw2420656463423086590:=0
def tw202755514721220703:=0
def tw14573897152321048703:=0
def tw8480409172908769439:=0
def tw13933289155622798495:=0
def tw2597053323599563935:=0
def tw13101767646269384895:=0
def tw16250418435376921791:=0
def tw2014357844123433183:=0
def tw16924964015683136735:=0
def tw10842760849449667807:=0
def tw16624251150213612831:=0
def tw107004015539914015:=0
def tw8822862575842400671:=0
def tw10631202183875390911:=0
def tw17087765374934984191:=0
def tw7521519182204421631:=0
def tw11360398567223337599:=0
def tw1738463892460937919:=0
def tw16008122901682922239:=0
def tw12207582459886222111:=0
def tw8358621265096006591:=0
def tw12025218414181487627:=0
end PySem.W.Fast
set_option maxRecDepth 100000 in
set_option maxHeartbeats 0 in
theorem PySem.Challenge.cw_nailhang_k62_terms_by_hand_holds : PySem.Challenge.rw_nailhang_k62_terms_by_hand.Holds := by
  w_on;o_law;k_head;(case hw=>w_witness2)
  k_fill
  refine Nhk62.zN (l:=PySem.Challenge.rw_nailhang_k62_terms_by_hand) rfl rfl (fun w h Y=>⟨PySem.W.kIn_of Y,Nhk62.vf (by k_is) (by k_is) (by k_is) (by k_is) (by k_is) (by k_is) (by k_is) (by k_is)⟩) ?F
  case F=>
    intro w mg fa h KX G hmg
    refine' Nhk62.xA KX G hmg (PL.yo KX G ?_ ?_ ?_ ?_ ?_ ?_ ?_ ?_ ?_ ?_ ?_ ?_ ?_ ?_ ?_ ?_ ?_ ?_ ?_ ?_) ?hPiece ?hParts ?hTimes ?hBack ?his ?_ ?_ ?_ ?_ ?_ ?_ ?_ ?_ ?_ ?_ ?_ ?_ ?_ ?_ ?_ ?_ ?_ ?g_LONGEST ?qc_NoCord ?qc_NoText ?qc_TooMany ?qc_TooLong ?qc_Term ?qc_Piece ?qc_Parts ?qc_Times ?qc_Back ?qc_ValueError ?qc_HangError ?w1_TooLong ?w2_TooLong ?w3_TooLong ?w4_TooLong ?w5_TooLong ?w6_TooLong ?w7_TooLong ?y_TooLong_NoCord ?y_TooLong_NoText ?y_TooLong_TooMany ?y_TooLong_TooLong ?y_TooLong_Term ?y_TooLong_Piece ?y_TooLong_Parts ?y_TooLong_Times ?y_TooLong_Back ?y_TooLong_ValueError ?y_TooLong_HangError
    case hPiece=>refine' Nhk62.qw ?_ ?_ ?_ ?_ ?_ ?_ ?_ ?_ ?_ ?_ ?_ ?_ ?_ ?_ ?_ <;> first | (refine' PL.ph ?_ ?_ ?_ ?_ ?_ <;> first | k_is | skip) | k_is | skip
    case hParts=>refine' Nhk62.qx ?_ ?_ ?_ ?_ ?_ ?_ ?_ ?_ ?_ ?_ ?_ ?_ ?_ ?_ ?_ <;> first | (refine' PL.ph ?_ ?_ ?_ ?_ ?_ <;> first | k_is | skip) | k_is | skip
    case hTimes=>refine' Nhk62.qy ?_ ?_ ?_ ?_ ?_ ?_ ?_ ?_ ?_ ?_ ?_ ?_ ?_ ?_ ?_ <;> first | (refine' PL.ph ?_ ?_ ?_ ?_ ?_ <;> first | k_is | skip) | k_is | skip
    case hBack=>refine' Nhk62.tN ?_ ?_ ?_ ?_ ?_ ?_ ?_ ?_ ?_ ?_ ?_ ?_ ?_ ?_ ?_ <;> first | (refine' PL.ph ?_ ?_ ?_ ?_ ?_ <;> first | k_is | skip) | k_is | skip
    case his=>refine' Nhk62.xz ?_ ?_ ?_ ?_ ?_ ?_ ?_ ?_ ?_ ?_ ?_ ?_ ?_ ?_ ?_ ?_ ?_ ?_ ?_ ?_ ?_ ?_ ?_ ?_ ?_ ?_ ?_ <;> first | k_is | kit_is | skip
    (case g_LONGEST=>k_is)
    (case qc_NoCord=>k_is)
    (case qc_NoText=>k_is)
    (case qc_TooMany=>k_is)
    (case qc_TooLong=>k_is)
    (case qc_Term=>k_is)
    (case qc_Piece=>k_is)
    (case qc_Parts=>k_is)
    (case qc_Times=>k_is)
    (case qc_Back=>k_is)
    (case qc_ValueError=>k_is)
    (case qc_HangError=>k_is)
    (case w1_TooLong=>k_exc)
    (case w2_TooLong=>kernel_rfl)
    (case w3_TooLong=>k_is)
    (case w4_TooLong=>k_is)
    (case w5_TooLong=>k_is)
    (case w6_TooLong=>k_is)
    (case w7_TooLong=>k_is)
    (case y_TooLong_NoCord=>kit_is)
    (case y_TooLong_NoText=>kit_is)
    (case y_TooLong_TooMany=>kit_is)
    (case y_TooLong_TooLong=>kit_is)
    (case y_TooLong_Term=>kit_is)
    (case y_TooLong_Piece=>kit_is)
    (case y_TooLong_Parts=>kit_is)
    (case y_TooLong_Times=>kit_is)
    (case y_TooLong_Back=>kit_is)
    (case y_TooLong_ValueError=>kit_is)
    (case y_TooLong_HangError=>kts_exm)
    all_goals first | (refine' Nhk62.yK ?_ ?_ ?_ ?_ <;> first | k_is | skip) | k_is
