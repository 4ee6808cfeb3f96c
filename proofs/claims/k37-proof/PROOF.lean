import PyProof.Rows.All
import KE.KLam
import KE.KNestM
import PyProof.OldK
import Wide.All
import OpenK.AllK
import Wide.FinOn
import Lean
import PyProof.EqAt
import PyProof.EqKinds
import PyProof.TupleCall
import KE.KRevIter
import PyProof.Rows.SeqMore
import PyProof.Rows.ListMulArg
import PyProof.ZipIter
import PyProof.Rows.ZipGen
import PyProof.EnumMake
import PyProof.StrWalks
import PyProof.SliceStr2
import PyProof.StrBlockH
import PyProof.FString5
import PyProof.Rows.StrJoin2
import PyProof.Rows.Range3
import KE.KDictLaws
import PyProof.ConsumeWalk
import PyProof.SumWalkG
import PyProof.Rows.SeqCalls
import PyProof.Rows.SeqGen
import PyProof.Rows.MinMaxN
import PyProof.Rows.CallKwBuiltin
import PyProof.Rows.SortStr
import PyProof.StrOps2
import PyProof.Rows.StrMul
import PyProof.IsRules
import PyProof.Rows.SetFrom
import PyProof.CollectStr
import KE.KTryMore
import KE.KSortTup
import PyProof.StrOps
import PyProof.Rows.SortRuns
import PyProof.Rows.SortKey
import PyProof.StrLawsIn
import PyProof.StrLawsNeg
import KE.RegKIsAll
import PyProof.P3Eq
import KE.RegKTryMore
import PySem.Challenge.RW_nailhang_k37_sets_refused
set_option Elab.async false
set_option linter.all false
set_option maxRecDepth 100000
set_option maxHeartbeats 4000000
local macro_rules | `(tactic|omega) => `(tactic|lia)
noncomputable section
theorem Z0{α β:Type}(a:α)(f:α→Option β):(some a).bind f=f a:=rfl
theorem Z1{α β:Type}{x:α}{f:α→β}:(some x).map f=some (f x):=rfl
theorem Z2{α:Type}{a:α}{l:List α}:(a::l)[0]? =some a:=rfl
theorem Z3{α:Type}{a:α}{l:List α}{i}:(a::l)[i+1]? =l[i]? :=rfl
theorem Z4{α:Type}{a:α}{l:List α}:(a::l).length=l.length+1:=rfl
theorem Z5{α:Type}:([]:List α).length=0:=rfl
theorem Z6{α:Type}{a b:α}{l:List α}:(a::l).set 0 b=b::l:=rfl
theorem Z7{α:Type}{a b:α}{l:List α}{n}:(a::l).set (n+1) b=a::l.set n b:=rfl
theorem Z8{α:Type}{l:List α}:[]++l=l:=rfl
theorem Z9{α:Type}{a:α}{l m:List α}:a::l++m=a::(l++m):=rfl
def bS:=@And.intro _ _ @Bool.false_and <|And.intro @Bool.false_eq_true <|And.intro @if_true.{1} <|And.intro @if_false.{1} <|And.intro @Nat.zero_add <|And.intro @Bool.not_false <|And.intro @Bool.and_true <|And.intro @decide_true <|And.intro @decide_false <|And.intro @Bool.true_or <|And.intro @Bool.true_and @Bool.not_true
def Za:=@Option.bind_eq_some_iff
def gw:=@PySem.Heap.get?_push_of_some
def Zab:=@List.mem_singleton
def dN:=@List.map_cons
def Zad:=@Option.map_eq_some_iff
def il:=@List.mem_cons_of_mem
def fH:=@List.length_map
def io:=@List.mem_cons_self
def kj:=@Nat.lt_of_lt_of_le
def fQ:=@Nat.le_refl
def lh:=@PySem.Heap.get?_push_size
def gE:=@PySem.Heap.lt_size
def Zal:=@List.mem_cons
def gI:=@Nat.ne_of_lt
def Zan:=@List.mem_append
def l_:=@List.size_toArray
def Zap:=@List.mem_map
def pD:=@List.mem_append_right
def jh:=@List.map_nil
def uv:=@List.getElem?_eq_getElem
def pA:=@List.append_assoc
def kb:=@Nat.le_trans
def pB:=@Nat.le_add_right
def kE:=@Nat.le_of_lt
def qI:=@Bool.false_ne_true
def uw:=@Array.toList_append
def uz:=@Array.length_toList
def Zb:=@Nat.add_sub_cancel_left
def Zba:=@List.getElem?_eq_some_iff
def qJ:=@List.append_nil
def sy:=@Bool.and_eq_true
def AK:=@List.getElem?_append_right
def uB:=@Nat.lt_succ_of_lt
def vH:=@List.length_append
def Zbg:=@List.all_eq_true
def AL:=@PySem.Heap.get?_update_other
open PySem.W (instObj tabObj methodObj hideAll hideAll_get of_hideAll Frag nsIn lookIn findIn emptyDict mroIn kitOne kia_one kitx_list kitx_dict keepIn callWith_K cellsFrom_some fnOf codeIn codeRec_of mg_of mg_none_of OpenLaw excIn codeHdIn kla_fn codeHd_of_K kla_obj envX exmOne km_tabs_of)
local macro_rules | `(tactic|and_intros)=>`(tactic|exact⟨rfl,rfl,rfl,by decide+kernel,rfl,by decide+kernel,by decide+kernel⟩)
namespace L2
open PySem PySem.Spec PyProof.Rows
abbrev iC:=Sum Int Str
def CO:iC→Value→Bool
 |.inl k,v=>Value.isInt k v
 |.inr x,v=>Value.isStrOf x v
def Go(w:World):iC→Int
 |.inl k=>hashInt k
 |.inr x=>hashStr w x
theorem dg:∀{k:iC} {v:Value},CO k v=true→(∃i t,k=Sum.inl i∧v=Value.int i t)∨(∃x t,k=Sum.inr x∧v=Value.str x t)
 |.inl i,v,h=>by
  obtain⟨t,e⟩:=Value.isInt_shape (k:=i) (v:=v) h
  exact .inl ⟨i,t,rfl,e⟩
 |.inr x,v,h=>by
  obtain⟨t,e⟩:=Value.isStrOf_shape (x:=x) (v:=v) h
  exact .inr ⟨x,t,rfl,e⟩
theorem Dj(a b:Int):decide ((Sum.inl a:iC)=Sum.inl b)=(a == b):=by
 by_cases e:a=b
 ·subst e;simp
 ·have h:¬(Sum.inl a:iC)=Sum.inl b:=fun q=>e (Sum.inl.inj q)
  rw[decide_eq_false h]
  exact(beq_eq_false_iff_ne.mpr e).symm
theorem Dk(a b:Str):decide ((Sum.inr a:iC)=Sum.inr b)=decide (a=b):=by
 by_cases e:a=b
 ·subst e;simp
 ·have h:¬(Sum.inr a:iC)=Sum.inr b:=fun q=>e (Sum.inr.inj q)
  rw[decide_eq_false h,decide_eq_false e]
theorem Dl(a:Int)(b:Str):decide ((Sum.inl a:iC)=Sum.inr b)=false:=decide_eq_false (fun q=>nomatch q)
theorem Dm(a:Str)(b:Int):decide ((Sum.inr a:iC)=Sum.inl b)=false:=decide_eq_false (fun q=>nomatch q)
def nJ(prog:Program)(w:World):PySem.KeyKind prog w iC where
 is:=CO
 hash:=Go w
 inj:=fun v a b ha hb=>by
  rcases dg ha with⟨i,t,rfl,rfl⟩ |⟨x,t,rfl,rfl⟩
  ·rcases dg hb with⟨j,u,rfl,e⟩ |⟨y,u,rfl,e⟩
   ·injection e with e1 _;rw[e1]
   ·exact nomatch e
  ·rcases dg hb with⟨j,u,rfl,e⟩ |⟨y,u,rfl,e⟩
   ·exact nomatch e
   ·injection e with e1 _;rw[e1]
 byValue:=fun k v h=>by
  rcases dg h with⟨i,t,rfl,rfl⟩ |⟨x,t,rfl,rfl⟩ <;> rfl
 pyHash:=fun hv h=>by
  rcases dg hv with⟨i,t,rfl,rfl⟩ |⟨x,t,rfl,rfl⟩
  ·exact wpAny_pyHash_int h
  ·exact wpAny_pyHash_str h
 eqBool:=fun hu hv h=>by
  rcases dg hu with⟨i,t,rfl,rfl⟩ |⟨x,t,rfl,rfl⟩
  ·rcases dg hv with⟨j,u,rfl,rfl⟩ |⟨y,u,rfl,rfl⟩
   ·rw[Dj]at h;exact wpAny_eqBool_int h
   ·rw[Dl]at h;exact SeqAt.EqAt.int_str i t y u _ _ _ _ h
  ·rcases dg hv with⟨j,u,rfl,rfl⟩ |⟨y,u,rfl,rfl⟩
   ·rw[Dm]at h;exact SeqAt.EqAt.str_int x t j u _ _ _ _ h
   ·rw[Dk]at h;exact wpAny_eqBool_str h
 «strs»:=fun k x t v h=>by
  rcases dg h with⟨i,u,rfl,e⟩ |⟨y,u,rfl,e⟩
  ·exact nomatch e
  ·injection e with e1 _
   subst e1
   cases v <;> rfl
end L2
namespace L2
open PySem PySem.Spec PyProof.Rows
inductive V where
 |non |bl (b:Bool) |int (i:Int) |str (x:Str) |byt (b:Array UInt8) |flt (b:UInt64) |ref (a:Addr) |ty (n:String)
 deriving DecidableEq
def RelV:V→Value→Prop
 |.non,u=>u=Value.none
 |.bl b,u=>u=Value.bool b
 |.int i,u=>∃t,u=Value.int i t
 |.str x,u=>∃t,u=Value.str x t
 |.byt b,u=>∃t,u=Value.bytes b t
 |.flt b,u=>∃t,u=Value.float b t
 |.ref a,u=>u=Value.ref a
 |.ty n,u=>u=Value.type n
abbrev Vals:List V→List Value→Prop:=Paired RelV
theorem Vals.length{xs:List V}{us:List Value}(r:Vals xs us):xs.length=us.length:=Paired.length r
theorem Vals.get:∀{xs:List V} {us:List Value} {i:Nat} {x:V},Vals xs us→xs[i]? =some x→∃u,us[i]? =some u∧RelV x u
 |_,_,_,_,.nil,e=>by simp at e
 |_,_,0,_,.cons r _,e=>by simp at e;subst e;exact⟨_,rfl,r⟩
 |_,_,i+1,x,.cons _ t,e=>by
  obtain⟨u,h1,h2⟩:=Vals.get (i:=i) (x:=x) t (by simpa using e)
  exact⟨u,by simpa using h1,h2⟩
theorem Vals.set{x:V}{u:Value}(r:RelV x u):∀{xs:List V} {us:List Value} (i:Nat),Vals xs us→Vals (xs.set i x) (us.set i u)
 |_,_,_,.nil=>.nil
 |_,_,0,.cons _ t=>.cons r t
 |_,_,i+1,.cons q t=>.cons q (Vals.set r i t)
theorem Vals.append:∀{xs ys:List V} {us ws:List Value},Vals xs us→Vals ys ws→Vals (xs++ys) (us++ws)
 |_,_,_,_,.nil,s=>s
 |_,_,_,_,.cons r t,s=>.cons r (Vals.append t s)
theorem Vals.take:∀{xs:List V} {us:List Value} (n:Nat),Vals xs us→Vals (xs.take n) (us.take n)
 |_,_,0,_=>.nil
 |_,_,_+1,.nil=>.nil
 |_,_,n+1,.cons r t=>.cons r (Vals.take n t)
theorem Vals.drop:∀{xs:List V} {us:List Value} (n:Nat),Vals xs us→Vals (xs.drop n) (us.drop n)
 |_,_,0,r=>r
 |_,_,_+1,.nil=>.nil
 |_,_,n+1,.cons _ t=>Vals.drop n t
def RelO:Option V→Option Value→Prop
 |some v,some u=>RelV v u
 |none,none=>True
 |_,_=>False
def KV{κ:Type}:List (κ×V)→List (κ×Value)→Prop:=Paired fun(p:κ×V) (q:κ×Value)=>p.1=q.1∧RelV p.2 q.2
def kV:iC→V
 |.inl i=>.int i
 |.inr x=>.str x
inductive HO where
 /-- a list -/
 |lst (xs:List V)
 /-- a tuple (never changes) -/
 |tup (xs:List V)
 /-- a dict whose keys are ints and texts;one whose keys are tuples of ints and texts (the empty one is both) -/
 |dK (kvs:List (iC×V)) |dT (kvs:List (List iC×V))
 /-- a set of ints:its members,its size -/
 |set (S:Int→Bool) (n:Nat)
 /-- an instance of the class at C,its dict at dx,its attributes -/
 |ins (C dx:Addr) (fs:List (Str×V))
 /-- the dict of the instance at x -/
 |own (x:Addr)
 /-- the dict of an exception -/
 |xd (fs:List (Str×V))
 /-- a bound method,f of x -/
 |met (f x:Addr)
 /-- a range object lo,lo+1,.. below hi -/
 |rng (lo hi:Int)
 /-- a thing that is known to the object (the script;a dict while a loop walks it):read,never written while it is so -/
 |frz (o:Obj) (u:HO)
 /-- a code object's table -/
 |tbl (q:Str)
 /-- any other thing,by what is true of its one object (a def of one's own:SetO a S n:=HO.ext fun h=> ..) -/
 |ext (φ:Heap→Prop)
abbrev Hp:=Addr→Option HO
def upd(H:Hp)(a:Addr)(o:HO):Hp:=fun b=>if b=a then some o else H b
theorem upd_same{H:Hp}{a:Addr}{o:HO}:upd H a o a=some o:=by unfold upd;rw[if_pos rfl]
theorem aB{H:Hp}{a b:Addr}{o:HO}(h:b≠a):upd H a o b=H b:=by unfold upd;rw[if_neg h]
theorem CP{H:Hp}{a b:Addr}{o u:HO}(h:H a=some o)(h':H b=some u)(d:o≠u):a≠b:=by
 intro e;subst e;rw[h]at h';exact d (Option.some.inj h')
theorem bB{H:Hp}{a b:Addr}{o:HO}(h:H a=some o)(h':H b=none):a≠b:=by
 intro e;subst e;rw[h]at h';cases h'
section
variable (P:Program) (w:World)
def ObjOk(H:Hp)(h:Heap)(a:Addr):HO→Prop
 |.lst xs=>xs.length≤sizeLine∧∃(its:List Value) (n:Nat),Vals xs its∧h.get? a=some {cls:=.type "list",data:=.seq its.toArray n}
 |.tup xs=>xs.length≤sizeLine∧∃its:List Value,Vals xs its∧IsTup h a its.toArray
 |.dK kvs=>kvs.length≤sizeLine∧(a == sysModules)=false∧∃vs,KV kvs vs∧h.DictOf (nJ P w) a vs
 |.dT kvs=>kvs.length≤sizeLine∧(a == sysModules)=false∧∃xs:List (List iC×Addr×Value),
   Paired (fun(p:List iC×V) (q:List iC×Addr×Value)=>p.1=q.1∧H q.2.1=some (.tup (p.1.map kV))∧RelV p.2 q.2.2) kvs xs∧
   ∃o es ep,h.get? a=some o∧o.ExactDict∧o.data=.dict es ep∧es.toList=xs.map (entryOfKey (tupleKind (nJ P w)))∧(xs.map (·.1)).Nodup
 |.set S n=>h.SetOf (intKind P w) a S n
 |.ins C dx fs=>H dx=some (.own a)∧fs.length≤1000∧dx≠a∧h.get? a=some (instObj C dx)∧
   ∃mA,h.Ns1 dx mA∧(∀f,RelO (fs.lookup f) (mA f))∧PySem.Within mA (fs.map (·.1))
 |.own _=>∃o,h.get? a=some o
 |.xd fs=>∃mA,h.Ns1 a mA∧∀f,RelO (fs.lookup f) (mA f)
 |.rng lo hi=>∃t u v,h.get? a=some {cls:=.type "range",data:=.fields #[.int lo t,.int hi u,.int 1 v]}
 |.frz o u=>h.get? a=some o∧ObjOk H h a u
 |.tbl q=>∃ps:Array Value,h.get? a=some (tabObj ps)∧TriplesOk ps.toList∧∀pos cv,codeAmong pos ps.toList=some cv→∃c,cv=Value.ref c∧H c=some (.own a)∧h.CodeRec cv q
 |.met f x=>h.get? a=some (methodObj (.ref f) (.ref x))
 |.ext φ=>φ h∧(∃o,h.get? a=some o)∧∀h1 h2:Heap,φ h1→(∀o,h1.get? a=some o→h2.get? a=some o)→φ h2
def HOk(H:Hp)(h:Heap):Prop:=∀a o,H a=some o→ObjOk P w H h a o
end
section
variable {P:Program} {w:World} {H H':Hp} {h h':Heap} {a:Addr} {o:HO}
theorem ObjOk.lt(x:ObjOk P w H h a o):a < h.objs.size:=by
 cases o with
 |lst xs=>obtain⟨_,_,_,_,e⟩:=x;exact gE e
 |tup xs=>obtain⟨_,_,_,p⟩:=x;exact p.lt
 |dK kvs=>obtain⟨_,_,_,_,o,_,_,e,_⟩:=x;exact gE e
 |dT kvs=>obtain⟨_,_,_,_,o,_,_,e,_⟩:=x;exact gE e
 |set S n=>obtain⟨o,_,_,_,e,_⟩:=x;exact gE e
 |ins C dx fs=>obtain⟨_,_,_,e,_⟩:=x;exact gE e
 |own y=>obtain⟨_,e⟩:=x;exact gE e
 |xd fs=>obtain⟨_,⟨_,_,_,e,_⟩,_⟩:=x;exact gE e
 |rng lo hi=>obtain⟨_,_,_,e⟩:=x;exact gE e
 |frz ob u=>obtain⟨e,_⟩:=x;exact gE e
 |tbl q=>obtain⟨_,e,_⟩:=x;exact gE e
 |met f y=>exact gE (show h.get? a=some _ from x)
 |ext φ=>obtain⟨_,⟨_,e⟩,_⟩:=x;exact gE e
theorem Paired.mapP{α β:Type}{F G:α→β→Prop}{l₁:List α}{l₂:List β}(h:Paired F l₁ l₂)(f:∀a b,F a b→G a b):Paired G l₁ l₂:=by
 induction h with
 |nil=>exact .nil
 |cons r _ t=>exact .cons (f _ _ r) t
theorem ObjOk.stay(x:ObjOk P w H h a o)(k:∀b u,(b=a∨H b=some (.own a))→h.get? b=some u→h'.get? b=some u)
  (ho:∀b,H b=some (.own a)→H' b=some (.own a)) (ht:∀b xs,H b=some (.tup xs)→H' b=some (.tup xs)):ObjOk P w H' h' a o:=by
 induction o with
 |lst xs=>obtain⟨z,its,n,r,e⟩:=x;exact⟨z,its,n,r,k _ _ (.inl rfl) e⟩
 |tup xs=>obtain⟨z,its,r,ob,e,c⟩:=x;exact⟨z,its,r,ob,k _ _ (.inl rfl) e,c⟩
 |dK kvs=>obtain⟨z,y,vs,r,ob,es,ep,e,c⟩:=x;exact⟨z,y,vs,r,ob,es,ep,k _ _ (.inl rfl) e,c⟩
 |dT kvs=>
  obtain⟨z,y,xs,r,ob,es,ep,e,c⟩:=x
  exact⟨z,y,xs,Paired.mapP r fun p q z=>⟨z.1,ht _ _ z.2.1,z.2.2⟩,ob,es,ep,k _ _ (.inl rfl) e,c⟩
 |set S n=>obtain⟨ob,es,ep,t,e,c⟩:=x;exact⟨ob,es,ep,t,k _ _ (.inl rfl) e,c⟩
 |ins C dx fs=>
  obtain⟨d,z,ne,e,mA,⟨od,es,ep,e2,c⟩,r⟩:=x
  exact⟨ho _ d,z,ne,k _ _ (.inl rfl) e,mA,⟨od,es,ep,k _ _ (.inr d) e2,c⟩,r⟩
 |own y=>obtain⟨ob,e⟩:=x;exact⟨ob,k _ _ (.inl rfl) e⟩
 |xd fs=>obtain⟨mA,⟨od,es,ep,e,c⟩,r⟩:=x;exact⟨mA,⟨od,es,ep,k _ _ (.inl rfl) e,c⟩,r⟩
 |rng lo hi=>obtain⟨t,u,v,e⟩:=x;exact⟨t,u,v,k _ _ (.inl rfl) e⟩
 |frz ob u ih=>obtain⟨e,q⟩:=x;exact⟨k _ _ (.inl rfl) e,ih q⟩
 |tbl q=>
  obtain⟨ps,e,t,r⟩:=x
  refine⟨ps,k _ _ (.inl rfl) e,t,fun pos cv z=>?_⟩
  obtain⟨c,ec,ho',c2,oc,vs,tq,hc,hoc,hd⟩:=r pos cv z
  subst ec
  cases hc
  exact⟨c,rfl,ho _ ho',c,oc,vs,tq,rfl,k _ _ (.inr ho') hoc,hd⟩
 |met f y=>
  have e:h.get? a=some (methodObj (.ref f) (.ref y)):=x
  show h'.get? a=some (methodObj (.ref f) (.ref y))
  exact k a _ (.inl rfl) e
 |ext φ=>obtain⟨p,⟨o,e⟩,st⟩:=x;exact⟨st _ _ p fun o q=>k _ _ (.inl rfl) q,⟨o,k _ _ (.inl rfl) e⟩,st⟩
theorem HOk.lt(x:HOk P w H h)(e:H a=some o):a < h.objs.size:=(x a o e).lt
theorem HOk.fresh(x:HOk P w H h)(e:h.objs.size≤a):H a=none:=by
 cases q:H a with
 |none=>rfl
 |some u=>exact absurd (kj (x.lt q) e) (Nat.lt_irrefl _)
theorem HOk.kept(x:HOk P w H h)(k:∀b u,h.get? b=some u→h'.get? b=some u):HOk P w H h':=fun a o e=>
 (x a o e).stay (fun b u _ q=>k b u q) (fun _ q=>q) fun _ _ q=>q
theorem HOk.laid(x:HOk P w H h)(k:∀b u,h.get? b=some u→h'.get? b=some u)(hp:h.objs.size≤a)(new:ObjOk P w (upd H a o) h' a o):HOk P w (upd H a o) h':=fun b u e=>by
 have hn:=x.fresh hp
 by_cases hb:b=a
 ·subst hb;rw[upd_same]at e;cases e;exact new
 ·rw[aB hb]at e
  exact(x b u e).stay (fun c v _ q=>k c v q) (fun c q=>by rw[aB (bB q hn)];exact q) fun c xs q=>by rw[aB (bB q hn)];exact q
end
def Rd(H:Hp)(a:Addr)(u:HO):Prop:=H a=some u∨∃o,H a=some (.frz o u)
theorem Rd.ok{P:Program}{w:World}{H:Hp}{h:Heap}{a:Addr}{u:HO}(r:Rd H a u)(x:HOk P w H h):ObjOk P w H h a u:=by
 rcases r with r |⟨o,r⟩
 ·exact x a u r
 ·obtain⟨_,q⟩:=x a _ r
  exact q
def Gf:Option HO→Prop
 |some (.lst _)=>True
 |some (.dK _)=>True
 |some (.dT _)=>True
 |some (.set _ _)=>True
 |some (.ins _ _ _)=>True
 |some (.ext _)=>True
 |_=>False
section
variable {P:Program} {w:World} {H:Hp} {h h':Heap} {x e:Addr} {o':HO}
theorem HOk.write(ok:HOk P w H h)(mu:Gf (H x))(he:e=x∨H e=some (.own x))(k:∀b u,b≠e→h.get? b=some u→h'.get? b=some u)(heo:∃u,h'.get? e=some u)
  (new:ObjOk P w (upd H x o') h' x o'):HOk P w (upd H x o') h':=fun b u q=>by
 have nown:∀c y,H c=some (.own y)→c≠x:=fun c y r z=>by subst z;rw[r]at mu;exact mu
 have ntup:∀c xs,H c=some (.tup xs)→c≠x:=fun c xs r z=>by subst z;rw[r]at mu;exact mu
 by_cases hb:b=x
 ·subst hb;rw[upd_same]at q;cases q;exact new
 ·rw[aB hb]at q
  by_cases hbe:b=e
  ·have q':H b=some (.own x):=by
    rcases he with z |z
    ·exact absurd (hbe.trans z) hb
    ·rw[hbe];exact z
   rw[q]at q';cases q'
   obtain⟨v,hv⟩:=heo
   exact⟨v,by rw[hbe];exact hv⟩
  ·refine(ok b u q).stay (fun c v hc r=>k c v ?_ r) (fun c r=>by rw[aB (nown c b r)];exact r) fun c xs r=>by rw[aB (ntup c xs r)];exact r
   rcases hc with rfl |hc
   ·exact hbe
   ·rintro rfl
    rcases he with z |z
    ·exact nown c b hc z
    ·rw[hc]at z;cases z;exact hb rfl
end
structure Un (fs ex:List Addr) (H H':Hp) (h h':Heap):Prop where
 keep:∀b o,h.get? b=some o→H b=none→b∉fs→b∉ex→h'.get? b=some o
 slot:∀b o,h.get? b=some o→H b=none→b∈fs→b∉ex→∃sl,h'.get? b=some {o with slots:=sl}
 free:∀b o,h.get? b=some o→H b=none→b∉ex→H' b=none
 there:∀b o,h.get? b=some o→b∉ex→∃o',h'.get? b=some o'
 tups:∀b xs,H b=some (.tup xs)→H' b=some (.tup xs)
 frzs:∀b o u,H b=some (.frz o u)→H' b=some (.frz o u)
 tbls:∀b ps,H b=some (.tbl ps)→H' b=some (.tbl ps)
section
variable {fs fs' ex ex':List Addr} {H H1 H2:Hp} {h h1 h2 h':Heap} {a x e:Addr} {o:HO}
theorem Un.any(u:Un fs ex H H1 h h1){b:Addr}{ob:Obj}(q:h.get? b=some ob)(n:H b=none)(hx:b∉ex):∃sl,h1.get? b=some {ob with slots:=sl}:=by
 by_cases hb:b∈fs
 ·exact u.slot b ob q n hb hx
 ·exact⟨ob.slots,u.keep b ob q n hb hx⟩
theorem Un.trans(a:Un fs ex H H1 h h1)(b:Un fs ex H1 H2 h1 h2):Un fs ex H H2 h h2 where
 keep:=fun c ob q n hc hx=>b.keep c ob (a.keep c ob q n hc hx) (a.free c ob q n hx) hc hx
 slot:=fun c ob q n hc hx=>by
  obtain⟨sl,e1⟩:=a.slot c ob q n hc hx
  obtain⟨sl',e2⟩:=b.slot c _ e1 (a.free c ob q n hx) hc hx
  exact⟨sl',e2⟩
 free:=fun c ob q n hx=>by
  obtain⟨o',e1⟩:=a.there c ob q hx
  exact b.free c o' e1 (a.free c ob q n hx) hx
 there:=fun c ob q hx=>by
  obtain⟨o',e1⟩:=a.there c ob q hx
  exact b.there c o' e1 hx
 tups:=fun c xs q=>b.tups c xs (a.tups c xs q)
 frzs:=fun c ob xs q=>b.frzs c ob xs (a.frzs c ob xs q)
 tbls:=fun c ps q=>b.tbls c ps (a.tbls c ps q)
theorem Un.kept(k:∀b u,h.get? b=some u→h'.get? b=some u):Un fs ex H H h h':=
 ⟨fun b ob q _ _ _=>k b ob q,fun b ob q _ _ _=>⟨ob.slots,k b ob q⟩,fun _ _ _ n _=>n,fun b ob q _=>⟨ob,k b ob q⟩,fun _ _ q=>q,fun _ _ _ q=>q,fun _ _ q=>q⟩
theorem Un.refl:Un fs ex H H h h:=Un.kept fun _ _ q=>q
theorem Un.laid(k:∀b u,h.get? b=some u→h'.get? b=some u)(hp:h.objs.size≤a)(hn:H a=none):Un fs ex H (upd H a o) h h' where
 keep:=fun b u q _ _ _=>k b u q
 slot:=fun b u q _ _ _=>⟨u.slots,k b u q⟩
 free:=fun b u q n _=>by rw[aB (gI (kj (gE q) hp))];exact n
 there:=fun b u q _=>⟨u,k b u q⟩
 tups:=fun b xs q=>by rw[aB (bB q hn)];exact q
 frzs:=fun b u xs q=>by rw[aB (bB q hn)];exact q
 tbls:=fun b ps q=>by rw[aB (bB q hn)];exact q
theorem Un.write(mu:Gf (H x))(he:e=x∨H e=some (.own x))(k:∀b u,b≠e→h.get? b=some u→h'.get? b=some u)(heo:∃u,h'.get? e=some u):Un fs ex H (upd H x o) h h':=by
 have hx:∀b,H b=none→b≠x:=fun b n z=>by subst z;rw[n]at mu;exact mu
 have hb:∀b,H b=none→b≠e:=fun b n z=>by
  subst z
  rcases he with r |r
  ·exact hx b n r
  ·rw[n]at r;cases r
 have hm:∀b u,H b=some u→¬Gf (some u)→b≠x:=fun b u q nm z=>by subst z;rw[q]at mu;exact nm mu
 refine⟨fun b u q n _ _=>k b u (hb b n) q,fun b u q n _ _=>⟨u.slots,k b u (hb b n) q⟩,fun b u q n _=>by rw[aB (hx b n)];exact n,fun b u q _=>?_,
  fun b xs q=>by rw[aB (hm b _ q fun z=>z)];exact q,fun b u xs q=>by rw[aB (hm b _ q fun z=>z)];exact q,fun b ps q=>by rw[aB (hm b _ q fun z=>z)];exact q⟩
 by_cases hbe:b=e
 ·subst hbe;exact heo
 ·exact⟨u,k b u hbe q⟩
theorem Un.mono(u:Un fs ex H H1 h h1)(hs:∀b∈fs,b∈fs')(hx:∀b∈ex,b∈ex'):Un fs' ex' H H1 h h1:=
 ⟨fun b ob q n hb he=>u.keep b ob q n (fun z=>hb (hs b z)) fun z=>he (hx b z),fun _ _ q n _ he=>u.any q n fun z=>he (hx _ z),fun b ob q n he=>u.free b ob q n fun z=>he (hx b z),fun b ob q he=>u.there b ob q fun z=>he (hx b z),u.tups,u.frzs,u.tbls⟩
end
def Gg(h:Heap)(H:Hp):List Addr:=(List.range h.objs.size).filter fun a=>(H a).isSome
def sC(h:Heap)(H:Hp):Heap:=hideAll h (Gg h H)
theorem wP(h:Heap)(H:Hp):(sC h H).objs.size=h.objs.size:=PySem.W.hideAll_size _ _
theorem nS{h:Heap}{H:Hp}{b:Addr}{o:Obj}(e:h.get? b=some o)(n:H b=none):(sC h H).get? b=some o:=
 hideAll_get _ e fun hm=>by
  have q:(H b).isSome=true:=(List.mem_filter.mp hm).2
  rw[n]at q;simp at q
theorem AS{h:Heap}{H:Hp}{b:Addr}{o:Obj}(e:(sC h H).get? b=some o):h.get? b=some o∧H b=none:=by
 have e':h.get? b=some o:=of_hideAll (Gg h H) e
 refine⟨e',?_⟩
 cases q:H b with
 |none=>rfl
 |some x=>
  have hm:b∈Gg h H:=List.mem_filter.mpr ⟨List.mem_range.mpr (gE e'),by simp[q]⟩
  have z:(sC h H).get? b=none:=PySem.W.hideAll_none (Gg h H) hm
  rw[z]at e;cases e
def AT(g h:Heap)(L:Addr):List (Addr×Obj):=(List.range h.objs.size).filterMap fun a=>if a=L∨(g.get? a).isSome=true then none else (h.get? a).map fun o=>(a,o)
def eN(g h:Heap)(L d:Addr):List (Addr×Obj):=(AT g h L).filter fun p=>decide (p.1≠d)
end L2
namespace L2
open PySem PySem.Spec PyProof.Rows
def pV(K:Frag)(n:Str):Option Addr:=match nsIn K mainGlobals n with
 |some (some (.ref f))=>match K.lookup f with
  |some ⟨_,_,.func fd,_⟩=>match fd.code with
   |.ref c=>match K.lookup c with
    |some ⟨_,_,.fields vs,_⟩=>match (vs[11]? :Option Value)with
     |some (.ref P)=>some P
     |_=>none
    |_=>none
   |_=>none
  |_=>none
 |_=>none
def pW:List (Str×Str):=[("in_told_order","in_told_order.<locals>.<lambda>"),("_law_moves_refused","_law_moves_refused.<locals>.<lambda>"),("_law_long_refused","_law_long_refused.<locals>.<lambda>"),("_law_sets_refused","_law_sets_refused.<locals>.<lambda>"),("_law_cords_refused","_law_cords_refused.<locals>.<lambda>"),("_law_many_refused","_law_many_refused.<locals>.<lambda>"),("_law_two_refused","_law_two_refused.<locals>.<lambda>"),("_law_at_least_refused","_law_at_least_refused.<locals>.<lambda>")]
def AU(K:Frag)(b:Addr):List (Str×Str)→Option Str
 |[]=>none
 |n::r=>if pV K n.1=some b then some n.2 else AU K b r
def ji(K:Frag)(b:Addr):Option Str:=AU K b pW
structure Mod (K:Frag) (mg:Str→Option Value) (base:Heap):Prop where
 kin:K.In base
 glob:base.Ns mainGlobals mg
 blt:∃mb,base.Ns builtinsNs mb∧∀x:Str,x≠"__name__"→mb x=bootBuiltins x
 nolimit:base.NoLimit
 bmain:∃bm ob,mg "__builtins__"=some (.ref bm)∧bm≠builtinsNs∧base.get? bm=some ob∧ob.cls=.type "module"∧ob.dict=some builtinsNs∧ob.data=.plain
structure Cx where
 prog:Program
 w:World
 K:Frag
 mg:Str→Option Value
 base:Heap
 A:Around
 N:List Str
 s₀:Shared
 H₀:Hp
 env:Env
 outer:List Env
 stack:List Env
 ex:List Addr
 fn:Str→Bool
 calm:Bool
 pn:List (Addr×Obj)
 xe:Value→Shared→Prop
def jS(l:List Env):List Addr:=l.filterMap (·.frame)
abbrev Cx.fs(X:Cx):List Addr:=jS X.outer
def EY(sc:Scope)(x:Str):Prop:=sc.names.lookup x=some .local∨sc.names.lookup x=some .cell∨sc.names.lookup x=some .free
def Do(sc:Scope)(x:Str):Prop:=sc.names.lookup x=some .local∨sc.names.lookup x=some .cell
def Gp(env:Env)(h:Heap)(m:Str→Option Value)(x:Str)(u:Value):Prop:=
 (env.kindOf x=some .local∧m x=some u)∨((env.kindOf x=some .cell∨env.kindOf x=some .free)∧∃c,env.cells.lookup x=some c∧h.IsCell c (some u))
structure Cx.Ok (X:Cx):Prop where
 mod:Mod X.K X.mg X.base
 kind:X.env.scope.kind=.function
 glob:X.env.globals=mainGlobals
 blt:X.env.builtins=builtinsNs
 above:X.s₀.heap.objs.size≤X.env.locals
 inj:∀x y c,X.env.cells.lookup x=some c→X.env.cells.lookup y=some c→x=y
 has:∀x,(X.env.kindOf x=some .cell∨X.env.kindOf x=some .free)→∃c,X.env.cells.lookup x=some c
 cab:∀x c,X.fn x=true→X.env.cells.lookup x=some c→X.s₀.heap.objs.size≤c
 hd:X.calm=true→X.A.handled=none
 frames:X.A.frames=some X.stack
 stk:X.stack=X.outer∨(X.stack=X.env::X.outer∧X.env.frame=some X.env.locals)
 exf:∀b∈X.ex,b≠X.env.locals∧∀x c,X.env.cells.lookup x=some c→c≠b
 bs:∀b o,X.base.get? b=some o→X.s₀.heap.get? b=some o∧X.H₀ b=none
 bsz:X.base.objs.size≤X.s₀.heap.objs.size
 noex:∀b o,X.base.get? b=some o→b∉X.ex
 exfs:∀b∈X.ex,b∉X.fs
 funs:X.s₀.heap.FunFrames X.base X.outer
 frf:∀b∈X.fs,X.H₀ b=none
 tab:∀b q,ji X.K b=some q→X.H₀ b=some (.tbl q)
structure Inv (X:Cx) (pins:List (Addr×Obj)) (σ:List (Option V)) (H:Hp) (s:Shared):Prop where
 ok:X.Ok
 os:s.os=X.s₀.os
 bare:AllBare s.gens
 base:Un X.fs X.ex X.H₀ H X.s₀.heap s.heap
 loc:∃m,s.heap.Ns X.env.locals m∧∀(i:Nat) (x:Str) (v:V),X.N[i]? =some x→σ[i]? =some (some v)→EY X.env.scope x→∃u,RelV v u∧Gp X.env s.heap m x u
 cell:∀x c,X.env.cells.lookup x=some c→∃v,s.heap.IsCell c v
 free:H X.env.locals=none
 freeC:∀x c,X.env.cells.lookup x=some c→H c=none
 pin:∀p∈X.pn++pins,s.heap.get? p.1=some p.2∧H p.1=none∧p.1≠X.env.locals∧p.1∉X.fs∧∀v,p.2.data≠ .cell v
 hok:HOk X.prog X.w H s.heap
 len:σ.length=X.N.length
section
variable {X:Cx} {pins:List (Addr×Obj)} {σ:List (Option V)} {H H':Hp} {s:Shared} {h':Heap}
theorem Cx.Ok.nofr(ok:X.Ok){b:Addr}{o:Obj}(e:X.base.get? b=some o):b∉X.fs:=fun hb=>by
 have:=(ok.funs.mem hb).1
 rw[e]at this;cases this
theorem Inv.bs(I:Inv X pins σ H s):∀b o,X.base.get? b=some o→s.heap.get? b=some o∧H b=none:=fun b o e=>
 ⟨I.base.keep b o (I.ok.bs b o e).1 (I.ok.bs b o e).2 (I.ok.nofr e) (I.ok.noex b o e),I.base.free b o (I.ok.bs b o e).1 (I.ok.bs b o e).2 (I.ok.noex b o e)⟩
theorem Inv.bk(I:Inv X pins σ H s):∀b o,X.base.get? b=some o→s.heap.get? b=some o:=fun b o e=>(I.bs b o e).1
theorem Inv.mod(I:Inv X pins σ H s):Mod X.K X.mg X.base:=I.ok.mod
theorem Inv.tab(I:Inv X pins σ H s):∀b q,ji X.K b=some q→H b=some (.tbl q):=fun b q e=>I.base.tbls b q (I.ok.tab b q e)
theorem Inv.kIn(I:Inv X pins σ H s):X.K.In s.heap:=I.ok.mod.kin.keeps I.bk
theorem Inv.nolimit(I:Inv X pins σ H s):s.heap.NoLimit:=I.ok.mod.nolimit.keeps I.bk
theorem Inv.lt(I:Inv X pins σ H s):X.env.locals < s.heap.objs.size:=let ⟨_,hn,_⟩:=I.loc;hn.lt
theorem Inv.sz(I:Inv X pins σ H s):X.s₀.heap.objs.size≤s.heap.objs.size:=kb I.ok.above (kE I.lt)
theorem Inv.nofs(I:Inv X pins σ H s){a:Addr}(h:s.heap.objs.size≤a):a∉X.fs:=fun hb=>by
 obtain⟨_,o,ho,_⟩:=I.ok.funs.mem hb
 exact absurd (kj (gE ho) (kb I.sz h)) (Nat.lt_irrefl _)
theorem Inv.cne(I:Inv X pins σ H s):∀x c,X.env.cells.lookup x=some c→c≠X.env.locals:=fun x c e z=>by
 obtain⟨v,o,ho,hd⟩:=I.cell x c e
 obtain⟨m,⟨o',es,ep,ho',hd',_⟩,_⟩:=I.loc
 rw[z,ho']at ho;cases ho;rw[hd']at hd;cases hd
theorem Inv.funs(I:Inv X pins σ H s):s.heap.FunFrames X.base X.outer:=by
 have all:∀(l:List Env),(∀b∈jS l,b∈X.fs)→X.s₀.heap.FunFrames X.base l→s.heap.FunFrames X.base l:=by
  intro l
  induction l with
  |nil=>intro _ _;trivial
  |cons env r ih=>
   intro hs hl
   obtain⟨hk,⟨L,o,hf,hn,ho,hd⟩,hr⟩:=hl
   have hL:L∈X.fs:=hs L (by unfold jS;rw[List.filterMap_cons,hf];exact io)
   obtain⟨sl,e⟩:=I.base.slot L o ho (I.ok.frf L hL) hL fun z=>I.ok.exfs L z hL
   exact⟨hk,⟨L,_,hf,hn,e,hd⟩,ih (fun b hb=>hs b (by unfold jS;rw[List.filterMap_cons,hf];exact il _ hb)) hr⟩
 exact all X.outer (fun _ hb=>hb) I.ok.funs
theorem Inv.stack(I:Inv X pins σ H s):s.heap.FunFrames X.base X.stack:=by
 rcases I.ok.stk with e |⟨e,hf⟩
 ·rw[e];exact I.funs
 ·rw[e]
  obtain⟨m,hn,_⟩:=I.loc
  refine .cons (by rw[I.ok.kind];decide) hf hn ?_ I.funs
  exact Heap.get?_none_of_le (kb I.ok.bsz I.ok.above)
theorem Inv.stkSub(I:Inv X pins σ H s):∀b∈jS X.stack,b∈X.env.locals::X.fs:=fun b hb=>by
 rcases I.ok.stk with e |⟨e,hf⟩
 ·rw[e]at hb;exact il _ hb
 ·rw[e]at hb
  unfold jS at hb
  rw[List.filterMap_cons,hf]at hb
  exact hb
theorem Inv.stkFree(I:Inv X pins σ H s):∀b∈jS X.stack,H b=none:=fun b hb=>by
 rcases Zal.mp (I.stkSub b hb)with e |hb
 ·rw[e];exact I.free
 ·obtain⟨_,o,ho,_⟩:=I.ok.funs.mem hb
  exact I.base.free b o ho (I.ok.frf b hb) fun z=>I.ok.exfs b z hb
theorem Inv.step{g':Array GenState}{t':Nat}{d':Drawn}{ch:List Addr}(I:Inv X pins σ H s)
  (hch:∀b∈ch,(b∈X.ex∨X.s₀.heap.objs.size≤b)∧b≠X.env.locals∧(∀x c,X.env.cells.lookup x=some c→c≠b)∧∀p∈X.pn++pins,p.1≠b)
  (keep:∀b o,b≠X.env.locals→b∉X.fs→b∉ch→s.heap.get? b=some o→H b=none→h'.get? b=some o)
  (slot:∀b o,b≠X.env.locals→b∈X.fs→b∉ch→s.heap.get? b=some o→H b=none→∃sl,h'.get? b=some {o with slots:=sl}) (free:∀b o,b∉ch→s.heap.get? b=some o→H b=none→H' b=none)
  (there:∀b o,b∉ch→s.heap.get? b=some o→∃o',h'.get? b=some o')
  (tups:∀b xs,H b=some (.tup xs)→H' b=some (.tup xs)) (frzs:∀b o u,H b=some (.frz o u)→H' b=some (.frz o u)) (tbls:∀b ps,H b=some (.tbl ps)→H' b=some (.tbl ps))
  (ns:∀m,s.heap.Ns X.env.locals m→h'.Ns X.env.locals m) (hok:HOk X.prog X.w H' h') (hg:AllBare g'):
  Inv X pins σ H' {s with heap:=h',gens:=g',drawn:=d',toks:=t'}:=by
 have neL:∀b o,X.s₀.heap.get? b=some o→b≠X.env.locals:=fun b o e=>gI (kj (gE e) I.ok.above)
 have neC:∀b o,X.s₀.heap.get? b=some o→b∉X.ex→b∉ch:=fun b o e hx hb=>by
  rcases(hch b hb).1 with z |z
  ·exact hx z
  ·exact absurd (kj (gE e) z) (Nat.lt_irrefl _)
 have cellK:∀x c,X.env.cells.lookup x=some c→∀v,s.heap.IsCell c v→h'.IsCell c v:=fun x c e v ⟨o,ho,hd⟩=>by
  have nch:c∉ch:=fun z=>(hch c z).2.2.1 x c e rfl
  by_cases hc:c∈X.fs
  ·obtain⟨sl,q⟩:=slot c o (I.cne x c e) hc nch ho (I.freeC x c e)
   exact⟨_,q,hd⟩
  ·exact⟨o,keep c o (I.cne x c e) hc nch ho (I.freeC x c e),hd⟩
 refine⟨I.ok,I.os,hg,⟨fun b o e n hb hx=>?_,fun b o e n hb hx=>?_,fun b o e n hx=>?_,fun b o e hx=>?_,fun b xs e=>tups b xs (I.base.tups b xs e),fun b o xs e=>frzs b o xs (I.base.frzs b o xs e),fun b ps e=>?_⟩,?_,fun x c e=>?_,?_,fun x c e=>?_,fun p hp=>?_,hok,I.len⟩
 ·exact keep b o (neL b o e) hb (neC b o e hx) (I.base.keep b o e n hb hx) (I.base.free b o e n hx)
 ·obtain⟨sl,e1⟩:=I.base.slot b o e n hb hx
  obtain⟨sl',e2⟩:=slot b _ (neL b o e) hb (neC b o e hx) e1 (I.base.free b o e n hx)
  exact⟨sl',e2⟩
 ·obtain⟨o',e1⟩:=I.base.there b o e hx
  exact free b o' (neC b o e hx) e1 (I.base.free b o e n hx)
 ·obtain⟨o',e1⟩:=I.base.there b o e hx
  exact there b o' (neC b o e hx) e1
 ·exact tbls b _ (I.base.tbls b ps e)
 ·obtain⟨m,hn,hl⟩:=I.loc
  refine⟨m,ns m hn,fun i x v e1 e2 e3=>?_⟩
  obtain⟨u,r,l⟩:=hl i x v e1 e2 e3
  refine⟨u,r,?_⟩
  rcases l with l |⟨k,c,e,z⟩
  ·exact .inl l
  ·exact .inr ⟨k,c,e,cellK x c e _ z⟩
 ·obtain⟨v,z⟩:=I.cell x c e
  exact⟨v,cellK x c e v z⟩
 ·obtain⟨m,⟨o,_,_,ho,_⟩,_⟩:=I.loc
  exact free _ o (fun z=>(hch _ z).2.1 rfl) ho I.free
 ·obtain⟨v,o,ho,hd⟩:=I.cell x c e
  exact free c o (fun z=>(hch c z).2.2.1 x c e rfl) ho (I.freeC x c e)
 ·obtain⟨e,n,ne,nf,d⟩:=I.pin p hp
  have nch:p.1∉ch:=fun z=>(hch p.1 z).2.2.2 p hp rfl
  exact⟨keep p.1 p.2 ne nf nch e n,free p.1 p.2 nch e n,ne,nf,d⟩
theorem Inv.un{t':Nat}(I:Inv X pins σ H s)(u:Un X.fs [] H H' s.heap h')(hok:HOk X.prog X.w H' h'):Inv X pins σ H' {s with heap:=h',toks:=t'}:=by
 obtain⟨m,⟨o,es,ep,ho,r⟩,_⟩:=id I.loc
 obtain⟨sl,hL⟩:=u.any ho I.free (by simp)
 exact I.step (g':=s.gens) (d':=s.drawn) (ch:=[]) (fun _ z=>nomatch z) (fun b o _ hb _ e n=>u.keep b o e n hb (by simp)) (fun b o _ hb _ e n=>u.slot b o e n hb (by simp)) (fun b o _ e n=>u.free b o e n (by simp)) (fun b o _ e=>u.there b o e (by simp)) u.tups u.frzs u.tbls (fun m' hm=>by
  obtain⟨o',es',ep',ho',r'⟩:=hm
  rw[ho]at ho';cases ho'
  exact⟨_,es',ep',hL,r'⟩) hok I.bare
theorem Inv.call{g':Array GenState}{t':Nat}{d':Drawn}{ch:List Addr}(I:Inv X pins σ H s)(u:Un (jS X.stack) ch H H' s.heap h')(hok:HOk X.prog X.w H' h')(hg:AllBare g')
  (hch:∀b∈ch,(b∈X.ex∨X.s₀.heap.objs.size≤b)∧b≠X.env.locals∧(∀x c,X.env.cells.lookup x=some c→c≠b)∧∀p∈X.pn++pins,p.1≠b):
  Inv X pins σ H' {s with heap:=h',gens:=g',drawn:=d',toks:=t'}:=by
 obtain⟨m,⟨o,es,ep,ho,r⟩,_⟩:=id I.loc
 obtain⟨sl,hL⟩:=u.any ho I.free fun z=>(hch _ z).2.1 rfl
 exact I.step (ch:=ch) hch (fun b o hL hb hc e n=>u.keep b o e n (fun z=>(Zal.mp (I.stkSub b z)).elim hL hb) hc) (fun b o _ _ hc e n=>u.any e n hc) (fun b o hc e n=>u.free b o e n hc) (fun b o hc e=>u.there b o e hc) u.tups u.frzs u.tbls (fun m' hm=>by
  obtain⟨o',es',ep',ho',r'⟩:=hm
  rw[ho]at ho';cases ho'
  exact⟨_,es',ep',hL,r'⟩) hok hg
theorem Inv.turned{t':Nat}{it:Addr}(I:Inv X pins σ H s)(k:∀b o,b≠it→s.heap.get? b=some o→h'.get? b=some o)(hn:H it=none)(hL:it≠X.env.locals)
  (h1:it∈X.ex∨X.s₀.heap.objs.size≤it) (h2:∀x c,X.env.cells.lookup x=some c→c≠it) (h3:∀p∈X.pn++pins,p.1≠it):Inv X pins σ H {s with heap:=h',toks:=t'}:=by
 have nit:∀b u,H b=some u→b≠it:=fun b u e z=>by rw[z,hn]at e;cases e
 refine I.step (g':=s.gens) (d':=s.drawn) (ch:=[it]) (fun b hb=>?_) (fun b o _ _ hc e _=>k b o (fun z=>hc (by simp[z])) e) (fun b o _ _ hc e _=>⟨o.slots,k b o (fun z=>hc (by simp[z])) e⟩) (fun _ _ _ _ n=>n)
  (fun b o hc e=>⟨o,k b o (fun z=>hc (by simp[z])) e⟩) (fun _ _ e=>e) (fun _ _ _ e=>e) (fun _ _ e=>e) (fun m hm=>?_) (fun b u e=>?_) I.bare
 ·have e:b=it:=by simpa using hb
  subst e
  exact⟨h1,hL,h2,h3⟩
 ·obtain⟨o,es,ep,ho,r⟩:=hm
  exact⟨o,es,ep,k _ o (Ne.symm hL) ho,r⟩
 ·refine(I.hok b u e).stay (fun c v hc q=>k c v ?_ q) (fun _ q=>q) fun _ _ q=>q
  rcases hc with z |z
  ·rw[z];exact nit b u e
  ·exact nit c _ z
theorem Inv.tok(I:Inv X pins σ H s)(t:Nat):Inv X pins σ H {s with toks:=t}:=I.un (h':=s.heap) (t':=t) Un.refl I.hok
theorem Inv.kept{t':Nat}(I:Inv X pins σ H s)(k:∀b u,s.heap.get? b=some u→h'.get? b=some u):Inv X pins σ H {s with heap:=h',toks:=t'}:=I.un (Un.kept k) (I.hok.kept k)
theorem Inv.laid{a:Addr}{o:HO}{t':Nat}(I:Inv X pins σ H s)(k:∀b u,s.heap.get? b=some u→h'.get? b=some u)(hp:s.heap.objs.size≤a)(new:ObjOk X.prog X.w (upd H a o) h' a o):
  Inv X pins σ (upd H a o) {s with heap:=h',toks:=t'}:=I.un (Un.laid k hp (I.hok.fresh hp)) (I.hok.laid k hp new)
theorem Inv.write{x e:Addr}{o:HO}{t':Nat}(I:Inv X pins σ H s)(mu:Gf (H x))(he:e=x∨H e=some (.own x))(k:∀b u,b≠e→s.heap.get? b=some u→h'.get? b=some u)(heo:∃u,h'.get? e=some u)
  (new:ObjOk X.prog X.w (upd H x o) h' x o):Inv X pins σ (upd H x o) {s with heap:=h',toks:=t'}:=I.un (Un.write mu he k heo) (I.hok.write mu he k heo new)
theorem Inv.pins_of{pins':List (Addr×Obj)}(I:Inv X pins σ H s)(h:∀p∈pins',s.heap.get? p.1=some p.2∧H p.1=none∧p.1≠X.env.locals∧p.1∉X.fs∧∀v,p.2.data≠ .cell v):Inv X pins' σ H s:=
 ⟨I.ok,I.os,I.bare,I.base,I.loc,I.cell,I.free,I.freeC,fun p hp=>(Zan.mp hp).elim (fun z=>I.pin p (List.mem_append_left _ z)) (h p),I.hok,I.len⟩
theorem nT{N:List Str}(hN:N.Nodup){i j:Nat}{x:Str}(a:N[i]? =some x)(b:N[j]? =some x):i=j:=by
 obtain⟨h1,e1⟩:=Zba.mp a
 obtain⟨h2,e2⟩:=Zba.mp b
 exact(List.getElem_inj hN).mp (e1.trans e2.symm)
theorem wQ{M:Model}{A:Around}{E:Value→Shared→Prop}{i:Nat}{x:Str}{v:V}{u:Value}{Q:Unit→Shared→Prop}(I:Inv X pins σ H s)(hN:X.N.Nodup)(hi:X.N[i]? =some x)(hx:Do X.env.scope x)(r:RelV v u)
  (h:∀s',Inv X pins (σ.set i (some v)) H s'→(∃a,Heap.SameBut a s.heap s'.heap∧(a=X.env.locals∨X.env.cells.lookup x=some a))→Q () s') (hf:X.fn x=true∨X.env.scope.names.lookup x=some .local:=by first |exact .inl rfl |exact .inr rfl |assumption):wpAny M A (storeName X.env x u) Q E s:=by
 obtain⟨m,hn,hl⟩:=id I.loc
 have hcls:(X.env.scope.kind ==.class||(X.env.scope.kind ==.module&&X.env.locals != X.env.globals))=false:=by rw[I.ok.kind];rfl
 have hiσ:i < σ.length:=by rw[I.len];exact(Zba.mp hi).1
 have cne:=I.cne
 have tracked:∀{a:Addr} {h':Heap},(∃o,s.heap.get? a=some o∧H a=none)→Heap.SameBut a s.heap h'→HOk X.prog X.w H h':=fun {a h'} ha hs b ob e=>by
  obtain⟨_,_,hfree⟩:=ha
  refine(I.hok b ob e).stay (fun c w' hc q=>(hs.2 c ?_).trans q) (fun _ q=>q) fun _ _ q=>q
  rintro rfl
  rcases hc with rfl |hc
  ·rw[hfree]at e;cases e
  ·rw[hfree]at hc;cases hc
 rcases hx with hk |hk
 ·refine wpAny_storeName_local hk hn (fun h' hn' hs=>?_) hcls
  obtain⟨oL,_,_,hoL,_⟩:=id hn
  refine h _ ⟨I.ok,I.os,I.bare,⟨fun b o e n hb hx=>?_,fun b o e n hb hx=>?_,I.base.free,fun b o e hx=>?_,I.base.tups,I.base.frzs,I.base.tbls⟩,⟨_,hn',fun j y v' e1 e2 e3=>?_⟩,fun y c e=>?_,I.free,I.freeC,fun p hp=>?_,tracked ⟨oL,hoL,I.free⟩ hs,by simpa using I.len⟩ ⟨_,hs,.inl rfl⟩
  ·exact(hs.2 b (gI (kj (gE e) I.ok.above))).trans (I.base.keep b o e n hb hx)
  ·obtain⟨sl,e1⟩:=I.base.slot b o e n hb hx
   exact⟨sl,(hs.2 b (gI (kj (gE e) I.ok.above))).trans e1⟩
  ·obtain⟨o',e1⟩:=I.base.there b o e hx
   exact⟨o',(hs.2 b (gI (kj (gE e) I.ok.above))).trans e1⟩
  ·by_cases hj:j=i
   ·subst hj
    rw[hi]at e1;cases e1
    rw[List.getElem?_set_self hiσ]at e2
    cases e2
    exact⟨u,r,.inl ⟨hk,by simp⟩⟩
   ·rw[List.getElem?_set_ne (Ne.symm hj)]at e2
    obtain⟨u',r',q⟩:=hl j y v' e1 e2 e3
    refine⟨u',r',?_⟩
    rcases q with⟨k,e⟩ |⟨k,c,e,z⟩
    ·refine .inl ⟨k,?_⟩
     have:y≠x:=fun e=>hj (nT hN e1 (e▸hi))
     simp[this,e]
    ·exact .inr ⟨k,c,e,z.sameBut hs (cne y c e)⟩
  ·obtain⟨w',z⟩:=I.cell y c e
   exact⟨w',z.sameBut hs (cne y c e)⟩
  ·obtain⟨e,n,ne,nf,d⟩:=I.pin p hp
   exact⟨(hs.2 p.1 ne).trans e,n,ne,nf,d⟩
 ·have hfn:X.fn x=true:=by
   rcases hf with z |z
   ·exact z
   ·rw[z]at hk;cases hk
  obtain⟨c,hc⟩:=I.ok.has x (.inl hk)
  obtain⟨w',z⟩:=I.cell x c hc
  refine wpAny_storeName_cell I.ok.kind hk hc z (fun h' hc' hs=>?_)
  obtain⟨oc,hoc,hocd⟩:=id z
  refine h {s with heap:=h'} ⟨I.ok,I.os,I.bare,⟨fun b o e n hb hx=>?_,fun b o e n hb hx=>?_,I.base.free,fun b o e hx=>?_,I.base.tups,I.base.frzs,I.base.tbls⟩,⟨m,hn.sameBut hs (Ne.symm (cne x c hc)),fun j y v' e1 e2 e3=>?_⟩,fun y c' e=>?_,I.free,I.freeC,fun p hp=>?_,tracked ⟨oc,hoc,I.freeC x c hc⟩ hs,by simpa using I.len⟩ ⟨c,hs,.inr hc⟩
  ·exact(hs.2 b (gI (kj (gE e) (I.ok.cab x c hfn hc)))).trans (I.base.keep b o e n hb hx)
  ·obtain⟨sl,e1⟩:=I.base.slot b o e n hb hx
   exact⟨sl,(hs.2 b (gI (kj (gE e) (I.ok.cab x c hfn hc)))).trans e1⟩
  ·obtain⟨o',e1⟩:=I.base.there b o e hx
   exact⟨o',(hs.2 b (gI (kj (gE e) (I.ok.cab x c hfn hc)))).trans e1⟩
  ·by_cases hj:j=i
   ·subst hj
    rw[hi]at e1;cases e1
    rw[List.getElem?_set_self hiσ]at e2
    cases e2
    exact⟨u,r,.inr ⟨.inl hk,c,hc,hc'⟩⟩
   ·rw[List.getElem?_set_ne (Ne.symm hj)]at e2
    obtain⟨u',r',q⟩:=hl j y v' e1 e2 e3
    refine⟨u',r',?_⟩
    rcases q with q |⟨k,c',e,z'⟩
    ·exact .inl q
    ·refine .inr ⟨k,c',e,z'.sameBut hs ?_⟩
     rintro rfl
     exact hj (nT hN e1 (I.ok.inj _ _ _ e hc▸hi))
  ·by_cases hcc:c'=c
   ·subst hcc;exact⟨_,hc'⟩
   ·obtain⟨w2,z2⟩:=I.cell y c' e
    exact⟨w2,z2.sameBut hs hcc⟩
  ·obtain⟨e,n,ne,nf,d⟩:=I.pin p hp
   refine⟨(hs.2 p.1 ?_).trans e,n,ne,nf,d⟩
   intro q
   rw[q,hoc]at e
   have q':oc=p.2:=Option.some.inj e
   exact d w' (by rw[←q'];exact hocd)
theorem nU{M:Model}{A:Around}{E:Value→Shared→Prop}{i:Nat}{x:Str}{v:V}{u:Value}{Q:Unit→Shared→Prop}(I:Inv X pins σ H s)(hN:X.N.Nodup)(hi:X.N[i]? =some x)(hx:Do X.env.scope x)(r:RelV v u)
  (h:∀s',Inv X pins (σ.set i (some v)) H s'→Q () s') (hf:X.fn x=true∨X.env.scope.names.lookup x=some .local:=by first |exact .inl rfl |exact .inr rfl |assumption):wpAny M A (storeName X.env x u) Q E s:=
 wQ I hN hi hx r (fun s' I' _=>h s' I') hf
theorem Inv.call'{s':Shared}{ch:List Addr}(I:Inv X pins σ H s)(ho:s'.os=s.os)(u:Un (jS X.stack) ch H H' s.heap s'.heap)(hok:HOk X.prog X.w H' s'.heap)(hg:AllBare s'.gens)
  (hch:∀b∈ch,(b∈X.ex∨X.s₀.heap.objs.size≤b)∧b≠X.env.locals∧(∀x c,X.env.cells.lookup x=some c→c≠b)∧∀p∈X.pn++pins,p.1≠b):Inv X pins σ H' s':=by
 obtain⟨h',g',d',t',o'⟩:=s'
 have e:o'=s.os:=ho
 subst e
 exact I.call (g':=g') (t':=t') (d':=d') u hok hg hch
end
abbrev XK:=Value→Option Addr→Hp→Prop
abbrev St:=List (Option V)
abbrev VK:=V→Hp→Prop
abbrev TE:=St→Hp→VK→Prop
abbrev TT:=St→Hp→(Bool→Hp→Prop)→Prop
abbrev TA:=St→Hp→(List V→Hp→Prop)→Prop
structure Ends where
 nx:St→Hp→Prop
 rt:VK
 bk:St→Hp→Prop:=fun _ _=>False
 ct:St→Hp→Prop:=fun _ _=>False
abbrev TS:=Ends→St→Hp→Prop
def EP(X:Cx)(pins:List (Addr×Obj))(σ:St)(Q:VK)(u:Value)(s':Shared):Prop:=∃v H',Inv X pins σ H' s'∧RelV v u∧Q v H'
def TP(X:Cx)(pins:List (Addr×Obj))(σ:St)(Q:Bool→Hp→Prop)(b:Bool)(s':Shared):Prop:=∃H',Inv X pins σ H' s'∧Q b H'
def AP(X:Cx)(pins:List (Addr×Obj))(σ:St)(Q:List V→Hp→Prop)(us:List Value)(s':Shared):Prop:=∃vs H',Inv X pins σ H' s'∧Vals vs us∧Q vs H'
def SP(X:Cx)(pins:List (Addr×Obj))(D:Ends)(f:Flow)(s':Shared):Prop:=
 match f with
 |.next=>∃σ' H',Inv X pins σ' H' s'∧D.nx σ' H'
 |.brk=>∃σ' H',Inv X pins σ' H' s'∧D.bk σ' H'
 |.cont=>∃σ' H',Inv X pins σ' H' s'∧D.ct σ' H'
 |.ret u=>∃v σ' H',Inv X pins σ' H' s'∧RelV v u∧D.rt v H'
def PE(X:Cx)(e:Expr)(t:TE):Prop:=
 ∀(pins:List (Addr×Obj)) (s:Shared) (σ:St) (H:Hp) (Q:VK),Inv X pins σ H s→t σ H Q→wpAny (model X.prog X.w) X.A (eval e X.env) (EP X pins σ Q) X.xe s
def PT(X:Cx)(e:Expr)(t:TT):Prop:=
 ∀(pins:List (Addr×Obj)) (s:Shared) (σ:St) (H:Hp) (Q:Bool→Hp→Prop),Inv X pins σ H s→t σ H Q→wpAny (model X.prog X.w) X.A (isTrue e X.env (eval e X.env)) (TP X pins σ Q) X.xe s
def PW(X:Cx)(e:Expr)(t:TT):Prop:=
 ∀(whole:Sem Value) (pins:List (Addr×Obj)) (s:Shared) (σ:St) (H:Hp) (Q:Bool→Hp→Prop),Inv X pins σ H s→t σ H Q→wpAny (model X.prog X.w) X.A (isTrue e X.env whole) (TP X pins σ Q) X.xe s
theorem PW.pt{X:Cx}{e:Expr}{t:TT}(h:PW X e t):PT X e t:=h _
def PA(X:Cx)(es:List Expr)(t:TA):Prop:=
 ∀(pos:Pos) (pins:List (Addr×Obj)) (s:Shared) (σ:St) (H:Hp) (Q:List V→Hp→Prop),Inv X pins σ H s→t σ H Q→wpAny (model X.prog X.w) X.A (spliced (backTo pos (starEach es X.env))) (AP X pins σ Q) X.xe s
def PS(X:Cx)(st:Stmt)(t:TS):Prop:=
 ∀(pins:List (Addr×Obj)) (s:Shared) (σ:St) (H:Hp) (D:Ends),Inv X pins σ H s→t D σ H→wpAny (model X.prog X.w) X.A (exec st X.env) (SP X pins D) X.xe s
def PSs(X:Cx)(st:List Stmt)(t:TS):Prop:=
 ∀(pins:List (Addr×Obj)) (s:Shared) (σ:St) (H:Hp) (D:Ends),Inv X pins σ H s→t D σ H→wpAny (model X.prog X.w) X.A (execs st X.env) (SP X pins D) X.xe s
theorem eG{α:Type}{t:Sem α}{Q Q':α→Shared→Prop}{M:Model}{A:Around}{E:Value→Shared→Prop}{s:Shared}(h:wpAny M A t Q E s)(hQ:∀a s,Q a s→Q' a s):wpAny M A t Q' E s:=wpAny_mono h hQ fun _ _ x=>x
end L2
namespace L2
open PySem PySem.Spec PyProof.Rows
section
variable {X:Cx}
def Gq(i:Nat):TE:=fun σ H Q=>∃v,σ[i]? =some (some v)∧Q v H
def tC(v:V):TE:=fun _ H Q=>Q v H
theorem uC {i:Nat} {x:Str} {pos:Pos} (hN:X.N[i]? =some x) (hv:EY X.env.scope x) (hd:(x == ("__debug__":Str))=false:=by decide) (hcd:(x == ("__classdict__":Str))=false:=by decide):PE X (.Name x pos) (Gq i):=by
 intro pins s σ H Q I h
 obtain⟨v,e,h⟩:=h
 obtain⟨m,hn,hl⟩:=I.loc
 obtain⟨u,r,l⟩:=hl i x v hN e hv
 have fin:EP X pins σ Q u s:=⟨v,H,I,r,h⟩
 rcases l with⟨hk,hm⟩ |⟨hk,c,hc,hcell⟩
 ·exact wpAny_Name (wpAny_loadName_local I.ok.kind hk hn hm fin) hd
 ·rcases hk with hk |hk
  ·exact wpAny_Name (wpAny_loadName_cell I.ok.kind hk hc hcell fin) hd
  ·exact wpAny_Name (wpAny_loadName_free I.ok.kind hk hc hcell fin hcd) hd
theorem Dp{i j pos}:PE X (.Constant (.int i) j pos) (tC (.int i)):=fun _ _ _ H _ I h=>wpAny_Constant_int ⟨.int i,H,I.tok _,⟨_,rfl⟩,h⟩
theorem EZ{b j pos}:PE X (.Constant (.bool b) j pos) (tC (.bl b)):=fun _ _ _ H _ I h=>Constant_bool ⟨.bl b,H,I,rfl,h⟩
theorem Dq{j pos}:PE X (.Constant .none j pos) (tC .non):=fun _ _ _ H _ I h=>Constant_none ⟨.non,H,I,rfl,h⟩
theorem uD{x j pos}:PE X (.Constant (.str x) j pos) (tC (.str x)):=fun _ _ _ H _ I h=>Calls.Constant_str ⟨.str x,H,I.tok _,⟨_,rfl⟩,h⟩
def Gl(X:Cx)(x:Str):Prop:=X.env.kindOf x=some .globalImplicit
theorem ip{E:Value→Shared→Prop}{pins:List (Addr×Obj)}{s:Shared}{σ:St}{H:Hp}{x:Str}{u:Value}{pos:Pos}{Q:Value→Shared→Prop}(I:Inv X pins σ H s)(hg:Gl X x)(hm:X.mg x=some u)(h:Q u s)
  (hd:(x == ("__debug__":Str))=false:=by decide):wpAny (model X.prog X.w) X.A (eval (.Name x pos) X.env) Q E s:=
 Calls.Name_function_global I.ok.kind hg (Calls.loadGlobal_global (by rw[I.ok.glob];exact I.mod.glob.keeps I.bk) hm h) hd
theorem nV{E:Value→Shared→Prop}{pins:List (Addr×Obj)}{s:Shared}{σ:St}{H:Hp}{x:Str}{u:Value}{pos:Pos}{Q:Value→Shared→Prop}(I:Inv X pins σ H s)(hg:Gl X x)(hm:X.mg x=none)(hv:bootBuiltins x=some u)(h:Q u s)
  (hn:x≠"__name__":=by decide) (hd:(x == ("__debug__":Str))=false:=by decide):wpAny (model X.prog X.w) X.A (eval (.Name x pos) X.env) Q E s:=by
 obtain⟨mb,h1,h2⟩:=I.mod.blt
 exact Calls.Name_function_global I.ok.kind hg (Calls.loadGlobal_builtin (by rw[I.ok.glob];exact I.mod.glob.keeps I.bk) hm (by rw[I.ok.blt];exact h1.keeps I.bk) ((h2 x hn).trans hv) h) hd
theorem qK {x:Str} {v:V} {u:Value} {pos:Pos} (hg:Gl X x) (hm:X.mg x=some u) (r:RelV v u) (hd:(x == ("__debug__":Str))=false:=by decide):PE X (.Name x pos) (tC v):=
 fun _ _ _ H _ I h=>ip I hg hm ⟨v,H,I,r,h⟩ hd
theorem vI {x:Str} {v:V} {u:Value} {pos:Pos} (hg:Gl X x) (hm:X.mg x=none) (hv:bootBuiltins x=some u) (r:RelV v u) (hn:x≠"__name__":=by decide) (hd:(x == ("__debug__":Str))=false:=by decide):PE X (.Name x pos) (tC v):=
 fun _ _ _ H _ I h=>nV I hg hm hv ⟨v,H,I,r,h⟩ hn hd
variable {a b:Expr} {ta tb:TE} {pos:Pos}
variable {tA tB':TT} {eN:List Expr}
def Gr(t u:TT):TT:=fun σ H Q=>t σ H fun c H1=>if c=true then u σ H1 Q else Q false H1
def Hq(t u:TT):TT:=fun σ H Q=>t σ H fun c H1=>if c=true then Q true H1 else u σ H1 Q
def Gs(t:TT):TT:=fun σ H Q=>t σ H fun c H1=>Q (!c) H1
theorem AV(ha:PT X a tA):PW X (.BoolOp .And [a] pos) tA:=by
 intro wh pins s σ H Q I h
 refine isTrue_and (eG (ha pins s σ H Q I h) fun c s1 e=>?_)
 cases c with
 |true=>exact isTrue_and_nil e
 |false=>exact e
theorem Dr(ha:PT X a tA):PW X (.BoolOp .Or [a] pos) tA:=by
 intro wh pins s σ H Q I h
 refine isTrue_or (eG (ha pins s σ H Q I h) fun c s1 e=>?_)
 cases c with
 |false=>exact isTrue_or_nil e
 |true=>exact e
theorem Ds(ha:PT X a tA)(hb:PW X (.BoolOp .And (b::eN) pos) tB'):PW X (.BoolOp .And (a::b::eN) pos) (Gr tA tB'):=by
 intro wh pins s σ H Q I h
 refine isTrue_and (eG (ha pins s σ H _ I h) fun c s1 ⟨H1,I1,q1⟩=>?_)
 cases c with
 |true=>exact hb wh pins s1 σ H1 Q I1 q1
 |false=>exact⟨H1,I1,q1⟩
theorem E7(ha:PT X a tA)(hb:PW X (.BoolOp .Or (b::eN) pos) tB'):PW X (.BoolOp .Or (a::b::eN) pos) (Hq tA tB'):=by
 intro wh pins s σ H Q I h
 refine isTrue_or (eG (ha pins s σ H _ I h) fun c s1 ⟨H1,I1,q1⟩=>?_)
 cases c with
 |true=>exact⟨H1,I1,q1⟩
 |false=>exact hb wh pins s1 σ H1 Q I1 q1
theorem Dt(ha:PT X a tA):PT X (.UnaryOp .Not a pos) (Gs tA):=by
 intro pins s σ H Q I h
 exact isTrue_not (ha pins s σ H (fun c H1=>Q (!c) H1) I h)
def E8(ta tb:TE):TE:=fun σ H Q=>ta σ H fun x H1=>∃c,x=.bl c∧if c=true then tb σ H1 Q else Q (.bl false) H1
theorem Du{op}{t:TE}(h:PE X a t):PE X (.BoolOp op [a] pos) t:=fun pins s σ H Q I hw=>BoolOp_one (h pins s σ H Q I hw)
theorem Dv(ha:PE X a ta)(hb:PE X (.BoolOp .And (b::eN) pos) tb):PE X (.BoolOp .And (a::b::eN) pos) (E8 ta tb):=by
 intro pins s σ H Q I h
 refine BoolOp_and (eG (ha pins s σ H _ I h) fun v s1 ⟨x,H1,I1,r1,q1⟩=>?_)
 obtain⟨c,rfl,q1⟩:=q1
 cases r1
 refine wpAny_truthy_bool ?_
 cases c with
 |true=>exact hb pins s1 σ H1 Q I1 q1
 |false=>exact⟨.bl false,H1,I1,rfl,q1⟩
end
end L2
namespace L2
open PySem PySem.Spec PyProof.Rows
def SqL(K:Frag)(H:Hp)(a:Addr)(xs:List V):Prop:=
 Rd H a (.lst xs)∨
  ∃(o:Obj) (its:Array Value) (n:Nat),K.lookup a=some o∧o.cls=.type "list"∧o.dict=none∧o.data=.seq its n∧its.size≤sizeLine∧Vals xs its.toList
def SqT(K:Frag)(H:Hp)(a:Addr)(xs:List V):Prop:=
 Rd H a (.tup xs)∨
  ∃(o:Obj) (its:Array Value) (n:Nat),K.lookup a=some o∧o.cls=.type "tuple"∧o.data=.seq its n∧its.size≤sizeLine∧Vals xs its.toList
def Gu:Value→Option V
 |.none=>some .non
 |.bool b=>some (.bl b)
 |.int i _=>some (.int i)
 |.str x _=>some (.str x)
 |.bytes b _=>some (.byt b)
 |.float b _=>some (.flt b)
 |.ref a=>some (.ref a)
 |.type n=>some (.ty n)
 |_=>none
theorem RelV.abs{x:V}{u:Value}(r:RelV x u):Gu u=some x:=by
 cases x with
 |non=>cases r;rfl
 |bl _=>cases r;rfl
 |int _=>obtain⟨t,rfl⟩:=r;rfl
 |str _=>obtain⟨t,rfl⟩:=r;rfl
 |byt _=>obtain⟨t,rfl⟩:=r;rfl
 |flt _=>obtain⟨t,rfl⟩:=r;rfl
 |ref _=>cases r;rfl
 |ty _=>cases r;rfl
theorem RelV.inj{x y:V}{u:Value}(r:RelV x u)(q:RelV y u):x=y:=Option.some.inj (r.abs.symm.trans q.abs)
theorem Vals.inj{xs ys:List V}{us:List Value}(h:Vals xs us)(k:Vals ys us):xs=ys:=by
 induction h generalizing ys with
 |nil=>cases k;rfl
 |cons r _ ih=>cases k with |cons r' t'=>rw[r.inj r',ih t']
section
variable {X:Cx} {pins:List (Addr×Obj)} {σ:St} {H:Hp} {s:Shared} {a:Addr} {xs ys:List V}
theorem SqL.of{K:Frag}(h:H a=some (.lst xs)):SqL K H a xs:=.inl (.inl h)
theorem SqT.of{K:Frag}(h:H a=some (.tup xs)):SqT K H a xs:=.inl (.inl h)
theorem Inv.list(I:Inv X pins σ H s)(h:SqL X.K H a xs):∃its:List Value,Vals xs its∧PlainL s.heap a its.toArray∧xs.length≤sizeLine:=by
 rcases h with h |⟨o,its,n,hk,hc,hd,hs,hz,r⟩
 ·obtain⟨z,its,n,r,e⟩:=h.ok I.hok
  exact⟨its,r,⟨_,n,e,rfl,rfl,rfl⟩,z⟩
 ·refine⟨its.toList,r,⟨o,n,I.kIn a o hk,hc,hd,by simpa using hs⟩,?_⟩
  have e:=r.length
  simp only[uz]at e
  omega
theorem Inv.tuple(I:Inv X pins σ H s)(h:SqT X.K H a xs):∃its:List Value,Vals xs its∧IsTup s.heap a its.toArray∧xs.length≤sizeLine:=by
 rcases h with h |⟨o,its,n,hk,hc,hs,hz,r⟩
 ·obtain⟨z,its,r,p⟩:=h.ok I.hok
  exact⟨its,r,p,z⟩
 ·refine⟨its.toList,r,⟨o,I.kIn a o hk,hc,n,by simpa using hs⟩,?_⟩
  have e:=r.length
  simp only[uz]at e
  omega
theorem Inv.list_inj(I:Inv X pins σ H s)(h:SqL X.K H a xs)(h':SqL X.K H a ys):xs=ys:=by
 obtain⟨its,r,⟨o,n,e,_,_,d⟩,_⟩:=I.list h
 obtain⟨its',r',⟨o',n',e',_,_,d'⟩,_⟩:=I.list h'
 rw[e]at e';cases e'
 rw[d]at d'
 injection d' with d1 _
 have:its=its':=by simpa using congrArg Array.toList d1
 subst this
 exact r.inj r'
theorem Inv.tuple_inj(I:Inv X pins σ H s)(h:SqT X.K H a xs)(h':SqT X.K H a ys):xs=ys:=by
 obtain⟨its,r,⟨o,e,_,n,d⟩,_⟩:=I.tuple h
 obtain⟨its',r',⟨o',e',_,n',d'⟩,_⟩:=I.tuple h'
 rw[e]at e';cases e'
 rw[d]at d'
 injection d' with d1 _
 have:its=its':=by simpa using congrArg Array.toList d1
 subst this
 exact r.inj r'
end
abbrev Cx.wish(X:Cx)(E:Value→Shared→Prop):Cx:={X with xe:=E}
abbrev Cx.nox(X:Cx):Cx:=X.wish fun _ _=>False
theorem Cx.Ok.wish{X:Cx}(ok:X.Ok)(E:Value→Shared→Prop):(X.wish E).Ok:=
 ⟨ok.mod,ok.kind,ok.glob,ok.blt,ok.above,ok.inj,ok.has,ok.cab,ok.hd,ok.frames,ok.stk,ok.exf,ok.bs,ok.bsz,ok.noex,ok.exfs,ok.funs,ok.frf,ok.tab⟩
theorem Cx.Ok.unwish{X:Cx}{E:Value→Shared→Prop}(ok:(X.wish E).Ok):X.Ok:=
 ⟨ok.mod,ok.kind,ok.glob,ok.blt,ok.above,ok.inj,ok.has,ok.cab,ok.hd,ok.frames,ok.stk,ok.exf,ok.bs,ok.bsz,ok.noex,ok.exfs,ok.funs,ok.frf,ok.tab⟩
section
variable {X:Cx} {pins:List (Addr×Obj)} {σ:St} {H:Hp} {s:Shared} {E:Value→Shared→Prop}
theorem Inv.wish(I:Inv X pins σ H s)(E:Value→Shared→Prop):Inv (X.wish E) pins σ H s:=⟨I.ok.wish E,I.os,I.bare,I.base,I.loc,I.cell,I.free,I.freeC,I.pin,I.hok,I.len⟩
theorem Inv.unwish(I:Inv (X.wish E) pins σ H s):Inv X pins σ H s:=⟨I.ok.unwish,I.os,I.bare,I.base,I.loc,I.cell,I.free,I.freeC,I.pin,I.hok,I.len⟩
theorem SP.unwish{D:Ends}{f:Flow}{s':Shared}(h:SP (X.wish E) pins D f s'):SP X pins D f s':=by
 cases f with
 |next=>obtain⟨σ',H',I,q⟩:=h;exact⟨σ',H',I.unwish,q⟩
 |brk=>obtain⟨σ',H',I,q⟩:=h;exact⟨σ',H',I.unwish,q⟩
 |cont=>obtain⟨σ',H',I,q⟩:=h;exact⟨σ',H',I.unwish,q⟩
 |ret u=>obtain⟨v,σ',H',I,r,q⟩:=h;exact⟨v,σ',H',I.unwish,r,q⟩
theorem PE.nox{e:Expr}{t:TE}(h:PE X.nox e t):PE X e t:=fun pins s σ H Q I hw=>
 wpAny_mono (h pins s σ H Q (I.wish _) hw) (fun _ _ ⟨v,H',I',r,q⟩=>⟨v,H',I'.unwish,r,q⟩) fun _ _ z=>False.elim z
theorem PT.nox{e:Expr}{t:TT}(h:PT X.nox e t):PT X e t:=fun pins s σ H Q I hw=>
 wpAny_mono (h pins s σ H Q (I.wish _) hw) (fun _ _ ⟨H',I',q⟩=>⟨H',I'.unwish,q⟩) fun _ _ z=>False.elim z
theorem PSs.nox{st:List Stmt}{t:TS}(h:PSs X.nox st t):PSs X st t:=fun pins s σ H D I hw=>
 wpAny_mono (h pins s σ H D (I.wish _) hw) (fun _ _ q=>q.unwish) fun _ _ z=>False.elim z
end
section
variable {X:Cx} {st:Stmt} {eN:List Stmt} {t u:TS} {e:Expr} {te:TE} {pos:Pos}
def E9:TS:=fun D σ H=>D.nx σ H
def Gv(t u:TS):TS:=fun D σ H=>t {D with nx:=u D} σ H
theorem AW:PSs X [] E9:=fun _ _ σ H _ I h=>wpAny_execs_nil ⟨σ,H,I,h⟩
theorem yh(h1:PS X st t)(h2:PSs X eN u):PSs X (st::eN) (Gv t u):=by
 intro pins s σ H D I h
 refine wpAny_execs_cons (eG (h1 pins s σ H {D with nx:=u D} I h) fun f s1 q=>?_)
 cases f with
 |next=>
  obtain⟨σ',H',I',q⟩:=q
  exact h2 pins s1 σ' H' D I' q
 |ret v=>exact q
 |brk=>exact q
 |cont=>exact q
theorem AY(h1:PS X st t):PSs X [st] t:=by
 intro pins s σ H D I h
 refine wpAny_execs_cons (eG (h1 pins s σ H D I h) fun f s1 q=>?_)
 cases f with
 |next=>exact wpAny_execs_nil q
 |ret v=>exact q
 |brk=>exact q
 |cont=>exact q
theorem Inv.quiet{pins:List (Addr×Obj)}{σ:St}{H:Hp}{s:Shared}(I:Inv X pins σ H s):interactive X.env=false:=by simp[interactive,I.ok.kind]
def E_(te:TE):TS:=fun D σ H=>te σ H fun _ H1=>D.nx σ H1
theorem AZ(he:PE X e te)(hs:swapsWith e none pos.line X.env=pure false:=by rfl):PS X (.Expr e pos) (E_ te):=by
 intro pins s σ H D I h
 exact wpAny_Expr_any (eG (he pins s σ H _ I h) fun v s1 ⟨x,H1,I1,r1,q1⟩=>⟨σ,H1,I1,q1⟩) I.quiet hs
def Gw(te:TE):TS:=fun D σ H=>te σ H D.rt
theorem Dw(he:PE X e te):PS X (.Return (some e) pos) (Gw te):=by
 intro pins s σ H D I h
 exact wpAny_Return_some (eG (he pins s σ H _ I h) fun v s1 ⟨x,H1,I1,r1,q1⟩=>⟨x,σ,H1,I1,r1,q1⟩)
def Gx(c:TT)(t u:TS):TS:=fun D σ H=>c σ H fun b H1=>if b=true then t D σ H1 else u D σ H1
theorem Fa{c:Expr}{a b:List Stmt}{tc:TT}(hc:PT X c tc)(ha:PSs X a t)(hb:PSs X b u):PS X (.If c a b pos) (Gx tc t u):=by
 intro pins s σ H D I h
 refine wpAny_If (eG (hc pins s σ H _ I h) fun d s1 ⟨H1,I1,q1⟩=>?_)
 cases d with
 |true=>exact ha pins s1 σ H1 D I1 q1
 |false=>exact hb pins s1 σ H1 D I1 q1
def Dx:TS:=fun _ _ _=>False
theorem yi:PS X st Dx:=fun _ _ _ _ _ _ h=>h.elim
end
abbrev TG:=V→St→Hp→(St→Hp→Prop)→Prop
abbrev A_:=List V→St→Hp→(St→Hp→Prop)→Prop
def PG(X:Cx)(target:Expr)(t:TG):Prop:=
 ∀(pins:List (Addr×Obj)) (s:Shared) (σ:St) (H:Hp) (v:V) (u:Value) (Q:St→Hp→Prop),Inv X pins σ H s→RelV v u→t v σ H Q→
  wpAny (model X.prog X.w) X.A (assign target X.env u) (fun _ s'=>∃σ' H',Inv X pins σ' H' s'∧Q σ' H') X.xe s
def Dy(X:Cx)(ts:List Expr)(t:A_):Prop:=
 ∀(pins:List (Addr×Obj)) (s:Shared) (σ:St) (H:Hp) (vs:List V) (us:List Value) (Q:St→Hp→Prop),Inv X pins σ H s→Vals vs us→t vs σ H Q→
  wpAny (model X.prog X.w) X.A (assignInOrder ((assignEach ts X.env).map (·.2)) us) (fun _ s'=>∃σ' H',Inv X pins σ' H' s'∧Q σ' H') X.xe s
section
variable {X:Cx} {pos:Pos}
def yj(i:Nat):TG:=fun v σ H Q=>Q (σ.set i (some v)) H
theorem vJ{i:Nat}{x:Str}(hN:X.N.Nodup)(hi:X.N[i]? =some x)(hx:Do X.env.scope x)(hf:X.fn x=true∨X.env.scope.names.lookup x=some .local:=by first |exact .inl rfl |exact .inr rfl |assumption):PG X (.Name x pos) (yj i):=by
 intro pins s σ H v u Q I r h
 exact wpAny_assign_Name (nU I hN hi hx r (fun s' I'=>⟨_,H,I',h⟩) hf)
def Gy:A_:=fun vs σ H Q=>vs=[]∧Q σ H
def Fb(t:TG)(u:A_):A_:=fun vs σ H Q=>∃v r,vs=v::r∧t v σ H fun σ' H'=>u r σ' H' Q
theorem Ba:Dy X [] Gy:=by
 intro pins s σ H vs us Q I r h
 obtain⟨e,h⟩:=h
 subst e
 cases r
 exact assignInOrder_nil ⟨σ,H,I,h⟩
theorem yk{e:Expr}{es:List Expr}{t:TG}{u:A_}(h1:PG X e t)(h2:Dy X es u)
  (hs:(assignEach (e::es) X.env).map (·.2)=assign e X.env::(assignEach es X.env).map (·.2):=by rfl):Dy X (e::es) (Fb t u):=by
 intro pins s σ H vs us Q I r h
 obtain⟨v,vr,e1,h⟩:=h
 subst e1
 cases r with
 |cons r rr=>
  rw[hs]
  refine assignInOrder_cons (eG (h1 pins s σ H _ _ _ I r h) fun _ s1 ⟨σ1,H1,I1,q1⟩=>?_)
  exact h2 pins s1 σ1 H1 _ _ Q I1 rr q1
def Gz(K:Frag)(n:Nat)(t:A_):TG:=fun v σ H Q=>∃a xs,v=.ref a∧SqT K H a xs∧xs.length=n∧t xs σ H Q
theorem Dz{es:List Expr}{k:Nat}{t:A_}{n:Nat}(hc:X.calm=true)(h:Dy X es t)
  (hn:(assignEach es X.env).length=n:=by rfl) (hst:(assignEach es X.env).findIdx? (·.1)=none:=by rfl):PG X (.Tuple es k pos) (Gz X.K n t):=by
 intro pins s σ H v u Q I r hw
 obtain⟨a,xs,e1,hq,hl,hw⟩:=hw
 subst e1
 cases r
 obtain⟨its,rv,ht,hz⟩:=I.tuple hq
 refine assign_Tuple_tuple (I.ok.hd hc) ht (by simp[hn,←hl,rv.length]) hst fun h' hx=>?_
 have I1:Inv X pins σ H {s with heap:=h'}:=I.kept (t':=s.toks) fun b o e=>hx b o (gI (gE e)) e
 exact h pins _ σ H xs _ Q I1 (by simpa using rv) hw
def Fc(te:TE)(g:TG):TS:=fun D σ H=>te σ H fun x H1=>g x σ H1 D.nx
theorem DA{i:Nat}{x:Str}{e:Expr}{te:TE}{pos':Pos}(hN:X.N.Nodup)(hi:X.N[i]? =some x)(hx:Do X.env.scope x)(he:PE X e te)(hs:swapsWith e (some (.Name x pos')) pos.line X.env=pure false:=by rfl)(hf:X.fn x=true∨X.env.scope.names.lookup x=some .local:=by first |exact .inl rfl |exact .inr rfl |assumption):
  PS X (.Assign [.Name x pos'] e pos) (Fc te (yj i)):=by
 intro pins s σ H D I h
 refine wpAny_Assign_Name (eG (he pins s σ H _ I h) fun v s1 ⟨y,H1,I1,r1,q1⟩=>?_) hs
 exact nU I1 hN hi hx r1 (fun s2 I2=>⟨_,H1,I2,q1⟩) hf
end
structure It where
 go:Nat→Hp→Prop
 yld:Nat→Hp→V→Hp→Prop
 stop:Nat→Hp→Prop
def pE(X:Cx)(pins:List (Addr×Obj))(H:Hp)(b:Addr):Prop:=
 H b=none∧b≠X.env.locals∧b∉X.fs∧(b∈X.ex∨X.s₀.heap.objs.size≤b)∧(∀x c,X.env.cells.lookup x=some c→c≠b)∧∀p∈X.pn++pins,p.1≠b
theorem Inv.fpOk{X:Cx}{pins:List (Addr×Obj)}{σ:St}{H H':Hp}{s:Shared}{b:Addr}(I:Inv X pins σ H s)(hb:s.heap.objs.size≤b)(hn:H' b=none):pE X pins H' b:=by
 refine⟨hn,Nat.ne_of_gt (kj I.lt hb),I.nofs hb,.inr (kb I.sz hb),fun x c e z=>?_,fun p hp z=>?_⟩
 ·obtain⟨v,q⟩:=I.cell x c e
  exact absurd (kj q.lt (by rw[z];exact hb)) (Nat.lt_irrefl _)
 ·exact absurd (kj (gE (I.pin p hp).1) (by rw[z];exact hb)) (Nat.lt_irrefl _)
structure Turn (P:Program) (w:World) (K:Frag) (tg:Expr) (J:It) (fp:List Addr) (it:Addr) (tn:Nat→Heap→Prop):Prop where
 mem:it∈fp
 obj:∀i h,tn i h→∀b∈fp,∃o,h.get? b=some o∧∀v,o.data≠ .cell v
 keep:∀i h h',tn i h→(∀b∈fp,∀o,h.get? b=some o→h'.get? b=some o)→tn i h'
 item:∀(X:Cx),X.prog=P→X.w=w→X.K=K→X.calm=true→∀(i:Nat) (pins:List (Addr×Obj)) (s:Shared) (σ:St) (H:Hp) (E:Value→Shared→Prop),Inv X pins σ H s→(∀b∈fp,pE X pins H b)→tn i s.heap→J.go i H→
  wpAny (model P w) X.A (pyNext (.ref it)) (fun r s1=>∃u,r=some u∧
   wpAny (model P w) X.A (letOwnedTupleGo tg (.ref it) u) (fun _ s2=>∃x H',Inv X pins σ H' s2∧RelV x u∧J.yld i H x H'∧tn (i+1) s2.heap∧∀b∈fp,H' b=none) E s1) E s
 done:∀(X:Cx),X.prog=P→X.w=w→X.K=K→X.calm=true→∀(i:Nat) (pins:List (Addr×Obj)) (s:Shared) (σ:St) (H:Hp) (E:Value→Shared→Prop),Inv X pins σ H s→(∀b∈fp,pE X pins H b)→tn i s.heap→J.stop i H→
  wpAny (model P w) X.A (pyNext (.ref it)) (fun r s1=>r=none∧Inv X pins σ H s1) E s
 self:∀(A:Around) (i:Nat) (s:Shared) (Q:Value→Shared→Prop) (E:Value→Shared→Prop),tn i s.heap→Q (.ref it) s→wpAny (model P w) A (pyIter (.ref it)) Q E s
abbrev TI:=St→Hp→(It→Hp→Prop)→Prop
def Hi(X:Cx)(pins:List (Addr×Obj))(σ:St)(tg:Expr)(R:It→Hp→Prop)(itv:Value)(s2:Shared):Prop:=
 ∃(it:Addr) (fp:List Addr) (tn:Nat→Heap→Prop) (J:It) (H':Hp),itv=.ref it∧Inv X pins σ H' s2∧Turn X.prog X.w X.K tg J fp it tn∧tn 0 s2.heap∧(∀b∈fp,pE X pins H' b)∧R J H'
def PI(X:Cx)(tg iter:Expr)(wi:TI):Prop:=
 ∀(pins:List (Addr×Obj)) (s:Shared) (σ:St) (H:Hp) (R:It→Hp→Prop),Inv X pins σ H s→wi σ H R→
  wpAny (model X.prog X.w) X.A (eval iter X.env) (fun v s1=>wpAny (model X.prog X.w) X.A (pyIter v) (Hi X pins σ tg R) X.xe s1) X.xe s
theorem vK{M:Model}{A:Around}{E:Value→Shared→Prop}{s:Shared}{tg:Expr}{it:Addr}{u:Value}{o:Obj}{n:String}{vs:Array Value}{Q:Unit→Shared→Prop}(ho:s.heap.get? it=some o)(hc:o.cls=.type n)(hd:o.data=.fields vs)
  (hn:["enumerate","zip","dict_itemiterator","dict_reverseitemiterator","odict_iterator","itertools.zip_longest","itertools.pairwise"].contains n=false) (hQ:Q () s):wpAny M A (letOwnedTupleGo tg (.ref it) u) Q E s:=by
 unfold letOwnedTupleGo
 cases tg <;> first
  |exact wpAny_pure hQ
  |(cases u <;> first
    |exact wpAny_pure hQ
    |(refine wpAny_bind (wpAny_load ho ?_)
      rw[hc,hd]
      show wpAny M A (if (["enumerate","zip","dict_itemiterator","dict_reverseitemiterator","odict_iterator","itertools.zip_longest","itertools.pairwise"].contains n&&vs[0]? == some (rawInt _))=true then _ else _) Q E s
      rw[if_neg (by intro h;rw[hn,Bool.false_and]at h;cases h)]
      exact wpAny_pure hQ))
def GA(K:Frag)(a:Addr):It:=
 ⟨fun i H=>∃xs x,SqL K H a xs∧xs[i]? =some x,fun i H x H'=>H'=H∧∀xs,SqL K H a xs→xs[i]? =some x,fun i H=>∃xs,SqL K H a xs∧xs.length≤i⟩
def GB(K:Frag)(a:Addr):It:=
 ⟨fun i H=>∃xs x,SqT K H a xs∧xs[i]? =some x,fun i H x H'=>H'=H∧∀xs,SqT K H a xs→xs[i]? =some x,fun i H=>∃xs,SqT K H a xs∧xs.length≤i⟩
def Gh(lo:Int)(n:Nat):It:=⟨fun i _=>i < n,fun i H x H'=>H'=H∧x=.int (lo+i),fun i _=>n≤i⟩
theorem wR{P:Program}{w:World}{K:Frag}{tg:Expr}(a it:Addr):Turn P w K tg (GA K a) [it] it (fun i h=>h.IsListIter it a i) where
 mem:=by simp
 obj:=fun i h st b hb=>by
  have e:b=it:=by simpa using hb
  subst e
  obtain⟨o,e,c,d⟩:=st
  exact⟨o,e,fun v z=>by rw[d]at z;cases z⟩
 keep:=fun i h h' st k=>st.at fun o e=>k it (by simp) o e
 item:=by
  intro X hP hw hK hc i pins s σ H E I hf st hg
  subst hP hw hK
  obtain⟨xs,x,hq,hx⟩:=hg
  obtain⟨its,rv,p,hz⟩:=I.list hq
  obtain⟨u,hu,ru⟩:=rv.get hx
  obtain⟨f0,f1,f2,f3,f4,f5⟩:=hf it (by simp)
  refine wpAny_pyNext_list_item st p.isList (x:=u) (by simpa using hu) fun h' st' sb=>?_
  have I1:Inv X pins σ H {s with heap:=h'}:=I.turned (t':=s.toks) (fun b o hb e=>(sb.2 b hb).trans e) f0 f1 f3 f4 f5
  obtain⟨o,e,c,d⟩:=id st'
  exact⟨u,rfl,vK (s:={s with heap:=h'}) e c d (by decide) ⟨x,H,I1,ru,⟨rfl,fun ys hy=>by rw[I.list_inj hy hq];exact hx⟩,st',fun b hb=>(hf b hb).1⟩⟩
 done:=by
  intro X hP hw hK hc i pins s σ H E I hf st hg
  subst hP hw hK
  obtain⟨xs,hq,hx⟩:=hg
  obtain⟨its,rv,p,hz⟩:=I.list hq
  obtain⟨f0,f1,f2,f3,f4,f5⟩:=hf it (by simp)
  have hl:=rv.length
  exact wpAny_pyNext_list_end (I.ok.hd hc) st p.isList (by simp;omega) fun h' eb=>⟨rfl,I.turned (t':=s.toks) (fun b o hb e=>eb b o hb e) f0 f1 f3 f4 f5⟩
 self:=fun _ _ _ _ _ st h=>wpAny_pyIter_listiter st h
theorem uE{P:Program}{w:World}{K:Frag}{tg:Expr}(a it:Addr):Turn P w K tg (GB K a) [it] it (fun i h=>h.IsTupleIter it a i) where
 mem:=by simp
 obj:=fun i h st b hb=>by
  have e:b=it:=by simpa using hb
  subst e
  obtain⟨o,e,c,d⟩:=st
  exact⟨o,e,fun v z=>by rw[d]at z;cases z⟩
 keep:=fun i h h' st k=>st.at fun o e=>k it (by simp) o e
 item:=by
  intro X hP hw hK hc i pins s σ H E I hf st hg
  subst hP hw hK
  obtain⟨xs,x,hq,hx⟩:=hg
  obtain⟨its,rv,p,hz⟩:=I.tuple hq
  obtain⟨u,hu,ru⟩:=rv.get hx
  obtain⟨f0,f1,f2,f3,f4,f5⟩:=hf it (by simp)
  refine wpAny_pyNext_tuple_item st (show s.heap.IsTuple a its.toArray from p) (x:=u) (by simpa using hu) fun h' st' sb=>?_
  have I1:Inv X pins σ H {s with heap:=h'}:=I.turned (t':=s.toks) (fun b o hb e=>(sb.2 b hb).trans e) f0 f1 f3 f4 f5
  obtain⟨o,e,c,d⟩:=id st'
  exact⟨u,rfl,vK (s:={s with heap:=h'}) e c d (by decide) ⟨x,H,I1,ru,⟨rfl,fun ys hy=>by rw[I.tuple_inj hy hq];exact hx⟩,st',fun b hb=>(hf b hb).1⟩⟩
 done:=by
  intro X hP hw hK hc i pins s σ H E I hf st hg
  subst hP hw hK
  obtain⟨xs,hq,hx⟩:=hg
  obtain⟨its,rv,p,hz⟩:=I.tuple hq
  obtain⟨f0,f1,f2,f3,f4,f5⟩:=hf it (by simp)
  have hl:=rv.length
  exact wpAny_pyNext_tuple_end (I.ok.hd hc) st (show s.heap.IsTuple a its.toArray from p) (by simp;omega) fun h' eb=>⟨rfl,I.turned (t':=s.toks) (fun b o hb e=>eb b o hb e) f0 f1 f3 f4 f5⟩
 self:=fun _ _ _ _ _ st h=>wpAny_pyIter_tupleiter st h
theorem uF{P:Program}{w:World}{K:Frag}{tg:Expr}(it:Addr)(lo:Int)(n:Nat):Turn P w K tg (Gh lo n) [it] it (fun i h=>IsRangeIter h it (lo+(i:Nat)*1) ((n:Int) - (i:Nat)) 1) where
 mem:=by simp
 obj:=fun i h st b hb=>by
  have e:b=it:=by simpa using hb
  subst e
  exact⟨_,st,fun v z=>by
   have z':Data.fields _=Data.cell v:=z
   cases z'⟩
 keep:=fun i h h' st k=>k it (by simp) _ st
 item:=by
  intro X hP hw hK hc i pins s σ H E I hf st hg
  subst hP hw hK
  obtain⟨f0,f1,f2,f3,f4,f5⟩:=hf it (by simp)
  have W:=Walks.range (prog:=X.prog) (w:=X.w) (I.ok.hd hc) it lo 1 n
  refine W.item i s _ _ hg st fun v h' tk hv st' kk=>?_
  obtain⟨t,rfl⟩:=hv
  have I1:Inv X pins σ H {s with heap:=h',toks:=tk}:=I.turned (fun b o hb e=>kk b o (by simpa using hb) e) f0 f1 f3 f4 f5
  refine⟨_,rfl,vK (s:={s with heap:=h',toks:=tk}) (n:="range_iterator") st' rfl rfl (by decide) ⟨.int (lo+i),H,I1,⟨t,?_⟩,⟨rfl,rfl⟩,st',fun b hb=>(hf b hb).1⟩⟩
  rw[Int.mul_one]
 done:=by
  intro X hP hw hK hc i pins s σ H E I hf st hg
  subst hP hw hK
  obtain⟨f0,f1,f2,f3,f4,f5⟩:=hf it (by simp)
  exact wpAny_pyNext_range_end (I.ok.hd hc) st (by have:n≤i:=hg;omega) fun h' eb=>⟨rfl,I.turned (t':=s.toks) (fun b o hb e=>eb b o hb e) f0 f1 f3 f4 f5⟩
 self:=fun _ _ _ _ _ st h=>wpAny_pyIter_rangeiter st h
end L2
namespace L2
open PySem PySem.Spec PyProof.Rows
section
variable {X:Cx} {tg:Expr}
def Fd(K:Frag)(tl:TE):TI:=fun σ H R=>tl σ H fun x H1=>∃a,x=.ref a∧(∃xs,SqL K H1 a xs)∧R (GA K a) H1
def GC(K:Frag)(tl:TE):TI:=fun σ H R=>tl σ H fun x H1=>∃a,x=.ref a∧(∃xs,SqT K H1 a xs)∧R (GB K a) H1
theorem Bc{l:Expr}{tl:TE}(hl:PE X l tl):PI X tg l (Fd X.K tl):=by
 intro pins s σ H R I h
 refine eG (hl pins s σ H _ I h) fun v s1 ⟨x,H1,I1,r1,q1⟩=>?_
 obtain⟨a,e,⟨xs,hq⟩,q⟩:=q1
 subst e
 cases r1
 obtain⟨its,rv,p,hz⟩:=I1.list hq
 refine wpAny_pyIter_list p.isList ?_
 refine⟨s1.heap.objs.size,[s1.heap.objs.size],_,_,H1,rfl,I1.kept (t':=s1.toks) fun b o e=>gw _ e,wR a _,⟨_,lh _ rfl,rfl,rfl⟩,fun b hb=>?_,q⟩
 have e:b=s1.heap.objs.size:=by simpa using hb
 subst e
 exact I1.fpOk (fQ _) (I1.hok.fresh (fQ _))
theorem DB{l:Expr}{tl:TE}(hl:PE X l tl):PI X tg l (GC X.K tl):=by
 intro pins s σ H R I h
 refine eG (hl pins s σ H _ I h) fun v s1 ⟨x,H1,I1,r1,q1⟩=>?_
 obtain⟨a,e,⟨xs,hq⟩,q⟩:=q1
 subst e
 cases r1
 obtain⟨its,rv,p,hz⟩:=I1.tuple hq
 refine wpAny_pyIter_tuple (show s1.heap.IsTuple a its.toArray from p) ?_
 refine⟨s1.heap.objs.size,[s1.heap.objs.size],_,_,H1,rfl,I1.kept (t':=s1.toks) fun b o e=>gw _ e,uE a _,⟨_,lh _ rfl,rfl,rfl⟩,fun b hb=>?_,q⟩
 have e:b=s1.heap.objs.size:=by simpa using hb
 subst e
 exact I1.fpOk (fQ _) (I1.hok.fresh (fQ _))
theorem ym{pins:List (Addr×Obj)}{σ:St}{H:Hp}{s:Shared}{R:It→Hp→Prop}{E:Value→Shared→Prop}{lo hi:Int}{t u v:Tok}{tk:Nat}(I:Inv X pins σ H s)(h1: -(2 ^ 62)≤lo)(h2:lo < 2 ^ 62)(h3: -(2 ^ 62)≤hi)(h4:hi < 2 ^ 62)
  (q:R (Gh lo (hi - lo).toNat) H):wpAny (model X.prog X.w) X.A (pyIter (.ref s.heap.objs.size)) (Hi X pins σ tg R) E {s with heap:=s.heap.push {cls:=.type "range",data:=.fields #[.int lo t,.int hi u,.int 1 v]},toks:=tk}:=by
 refine wpAny_pyIter_range (IsRange.new ..) (small_one h1 h2 h3 h4) ?_
 have I1:Inv X pins σ H {s with heap:=s.heap.push {cls:=.type "range",data:=.fields #[.int lo t,.int hi u,.int 1 v]},toks:=tk}:=I.kept fun b o e=>gw _ e
 refine⟨(s.heap.push {cls:=.type "range",data:=.fields #[.int lo t,.int hi u,.int 1 v]}).objs.size,[(s.heap.push {cls:=.type "range",data:=.fields #[.int lo t,.int hi u,.int 1 v]}).objs.size],_,_,H,rfl,
  I1.kept (t':=tk) fun b o e=>gw _ e,uF _ lo (hi - lo).toNat,?_,fun b hb=>?_,q⟩
 ·have e1:lo+((0:Nat):Int)*1=lo:=by simp
  have e2:(((hi - lo).toNat:Nat):Int) - ((0:Nat):Int)=Builtin.Range.rangeSize lo hi 1:=by rw[rangeSize_one];split <;> omega
  show IsRangeIter _ _ (lo+((0:Nat):Int)*1) ((((hi - lo).toNat:Nat):Int) - ((0:Nat):Int)) 1
  rw[e1,e2]
  exact lh _ rfl
 ·have e:b=(s.heap.push {cls:=.type "range",data:=.fields #[.int lo t,.int hi u,.int 1 v]}).objs.size:=by simpa using hb
  subst e
  exact I1.fpOk (fQ _) (I1.hok.fresh (fQ _))
def Fe(ta:TA):TI:=fun σ H R=>ta σ H fun vs H1=>∃j:Int,vs=[.int j]∧ -(2 ^ 62)≤j∧j < 2 ^ 62∧R (Gh 0 j.toNat) H1
theorem wS {a:Expr} {ta:TA} {p pos:Pos} (hg:Gl X "range") (hm:X.mg "range"=none) (ha:PA X [a] ta) (hs:starEach [a] X.env=[(false,eval a X.env)]:=by rfl):PI X tg (.Call (.Name "range" p) [a] [] pos) (Fe ta):=by
 intro pins s σ H R I h
 refine Call_ (nV I hg hm boot_range (PyProof.Rows.callWith_type1 (eG (ha pos pins s σ H _ I h) fun us s1 ⟨vs,H1,I1,r1,q1⟩=>?_) hs rfl))
 obtain⟨j,e,q1,q2,q⟩:=q1
 subst e
 cases r1 with
 |cons r rr=>
  cases rr
  obtain⟨t,rfl⟩:=r
  exact call_range_1 (ym I1 (by omega) (by omega) q1 q2 (by simpa using q))
def GD(wi:TI)(g:TG)(tb:TS):TS:=fun D σ H=>wi σ H fun J H1=>∃W:Nat→Nat→St→Hp→Prop,(∃m,W 0 m σ H1)∧∀i m σ H,W i m σ H→
 (J.stop i H∧D.nx σ H)∨(J.go i H∧∃N:St→Hp→Prop,(∀σ' H',N σ' H'→∃m',m' < m∧W (i+1) m' σ' H')∧∀x H',J.yld i H x H'→g x σ H' fun σ2 H2=>tb {D with nx:=N,ct:=N,bk:=D.nx} σ2 H2)
def ma(fp:List Addr)(h:Heap):List (Addr×Obj):=fp.filterMap fun b=>(h.get? b).map fun o=>(b,o)
theorem fT{fp:List Addr}{h:Heap}{b:Addr}{o:Obj}(hb:b∈fp)(e:h.get? b=some o):(b,o)∈ma fp h:=List.mem_filterMap.mpr ⟨b,hb,by rw[e];rfl⟩
theorem wT{fp:List Addr}{h:Heap}{p:Addr×Obj}(hp:p∈ma fp h):p.1∈fp∧h.get? p.1=some p.2:=by
 obtain⟨b,hb,e⟩:=List.mem_filterMap.mp hp
 cases q:h.get? b with
 |none=>rw[q]at e;cases e
 |some o=>
  rw[q]at e
  have e':(b,o)=p:=Option.some.inj e
  subst e'
  exact⟨hb,q⟩
theorem Inv.pinned{pins:List (Addr×Obj)}{σ:St}{H:Hp}{s:Shared}{fp:List Addr}(I:Inv X pins σ H s)(hf:∀b∈fp,pE X pins H b)(ho:∀b∈fp,∃o,s.heap.get? b=some o∧∀v,o.data≠ .cell v):Inv X (pins++ma fp s.heap) σ H s:=
 I.pins_of fun p hp=>(Zan.mp hp).elim (fun z=>I.pin p (pD _ z)) fun z=>by
  obtain⟨hb,e⟩:=wT z
  obtain⟨f0,f1,f2,_⟩:=hf p.1 hb
  obtain⟨o,e',d⟩:=ho p.1 hb
  rw[e]at e';cases e'
  exact⟨e,f0,f1,f2,d⟩
theorem Inv.unpinned{pins pl:List (Addr×Obj)}{σ:St}{H:Hp}{s:Shared}(I:Inv X (pins++pl) σ H s):Inv X pins σ H s:=I.pins_of fun p hp=>I.pin p (pD _ (List.mem_append_left _ hp))
theorem yn{iter:Expr}{body:List Stmt}{wi:TI}{g:TG}{tb:TS}{pos:Pos}(hp:PassesOwn (model X.prog X.w) X.A X.env X.xe)(hc:X.calm=true)(hi:PI X tg iter wi)(hg:PG X tg g)(hb:PSs X body tb)
  (hs:∀x,foldedSetIterable iter X.env x=pure x:=by intro _;rfl):PS X (.For tg iter body [] pos) (GD wi g tb):=by
 intro pins s σ H D I h
 refine wpAny_For (eG (hi pins s σ H _ I h) fun v s1 h1=>eG h1 fun itv s2 h2=>?_) hs
 obtain⟨it,fp,tn,J,H2,e,I2,T,st2,f2,W,⟨m0,w0⟩,turn⟩:=h2
 subst e
 -- what stays true of the iterator's objects through the loop
 have stat:∀{H':Hp},(∀b∈fp,H' b=none)→∀b∈fp,pE X pins H' b:=fun hn b hb=>⟨hn b hb,(f2 b hb).2⟩
 refine codeAny_forLoop_any (fun n s'=>∃i σ' H',Inv X pins σ' H' s'∧tn i s'.heap∧(∀b∈fp,H' b=none)∧W i n σ' H') ?_ m0 ⟨0,σ,H2,I2,st2,fun b hb=>(f2 b hb).1,w0⟩
 rintro n s3 ⟨i,σ3,H3,I3,st3,fr3,w3⟩
 rcases turn i n σ3 H3 w3 with⟨stop,qn⟩ |⟨go,N,hN,step⟩
 ·refine wpAny_passesOwn hp (eG (T.done X rfl rfl rfl hc i pins s3 σ3 H3 X.xe I3 (stat fr3) st3 stop) fun r s4 ⟨hr,I4⟩=>?_)
  subst hr
  exact wpAny_execs_nil ⟨σ3,H3,I4,qn⟩
 ·refine wpAny_passesOwn hp (eG (T.item X rfl rfl rfl hc i pins s3 σ3 H3 X.xe I3 (stat fr3) st3 go) fun r s4 ⟨u,hr,h4⟩=>?_)
  subst hr
  refine wpAny_passesOwn hp (eG h4 fun _ s5 ⟨x,H5,I5,r5,y5,st5,fr5⟩=>?_)
  have I5':=I5.pinned (stat fr5) (T.obj _ _ st5)
  refine wpAny_passesOwn hp (eG (hg _ s5 σ3 H5 x u _ I5' r5 (step x H5 y5)) fun _ s6 ⟨σ6,H6,I6,q6⟩=>?_)
  refine wpAny_passesOwn hp (eG (hb _ s6 σ6 H6 _ I6 q6) fun f s7 q7=>?_)
  have again:∀{σ7:St} {H7:Hp},Inv X (pins++ma fp s5.heap) σ7 H7 s7→N σ7 H7→∃m,m < n∧∃i σ' H',Inv X pins σ' H' s7∧tn i s7.heap∧(∀b∈fp,H' b=none)∧W i m σ' H':=fun {σ7 H7} I7 n7=>by
   obtain⟨m',hm,w7⟩:=hN σ7 H7 n7
   refine⟨m',hm,i+1,σ7,H7,I7.unpinned,T.keep _ _ _ st5 fun b hb o e=>(I7.pin (b,o) (pD _ (pD _ (fT hb e)))).1,fun b hb=>?_,w7⟩
   obtain⟨o,e,d⟩:=T.obj _ _ st5 b hb
   exact(I7.pin (b,o) (pD _ (pD _ (fT hb e)))).2.1
  cases f with
  |next=>obtain⟨σ7,H7,I7,n7⟩:=q7;exact again I7 n7
  |cont=>obtain⟨σ7,H7,I7,n7⟩:=q7;exact again I7 n7
  |brk=>obtain⟨σ7,H7,I7,q7⟩:=q7;exact⟨σ7,H7,I7.unpinned,q7⟩
  |ret v=>obtain⟨x7,σ7,H7,I7,r7,q7⟩:=q7;exact⟨x7,σ7,H7,I7.unpinned,r7,q7⟩
end
end L2
namespace L2
open PySem PySem.Spec PyProof.Rows
abbrev R2:=V→V→Hp→VK→Prop
def OpR(X:Cx)(f:Value→Value→Sem Value)(r:R2):Prop:=
 ∀(pins:List (Addr×Obj)) (s:Shared) (σ:St) (H:Hp) (x y:V) (v u:Value) (Q:VK),Inv X pins σ H s→RelV x v→RelV y u→r x y H Q→
  wpAny (model X.prog X.w) X.A (f v u) (EP X pins σ Q) X.xe s
def GE(X:Cx)(f:Value→Sem Value)(r:V→Hp→VK→Prop):Prop:=
 ∀(pins:List (Addr×Obj)) (s:Shared) (σ:St) (H:Hp) (x:V) (v:Value) (Q:VK),Inv X pins σ H s→RelV x v→r x H Q→
  wpAny (model X.prog X.w) X.A (f v) (EP X pins σ Q) X.xe s
def CallR(X:Cx)(f:Value)(r:List V→Hp→VK→Prop):Prop:=
 ∀(pins:List (Addr×Obj)) (s:Shared) (σ:St) (H:Hp) (xs:List V) (us:List Value) (Q:VK),Inv X pins σ H s→Vals xs us→r xs H Q→
  wpAny (model X.prog X.w) X.A (call f us) (EP X pins σ Q) X.xe s
def GF(X:Cx)(r:V→Hp→(Bool→Hp→Prop)→Prop):Prop:=
 ∀(pins:List (Addr×Obj)) (s:Shared) (σ:St) (H:Hp) (x:V) (v:Value) (Q:Bool→Hp→Prop),Inv X pins σ H s→RelV x v→r x H Q→
  wpAny (model X.prog X.w) X.A (truthy v) (TP X pins σ Q) X.xe s
def Ff(r:R2)(ta tb:TE):TE:=fun σ H Q=>ta σ H fun x H1=>tb σ H1 fun y H2=>r x y H2 Q
def Hr(r:V→Hp→VK→Prop)(ta:TE):TE:=fun σ H Q=>ta σ H fun x H1=>r x H1 Q
def rI(C:Int→Int→Prop)(g:Int→Int→V):R2:=fun x y H Q=>∃i j,x=.int i∧y=.int j∧C i j∧Q (g i j) H
def Bd(g:Int→Int→V):R2:=fun x y H Q=>∃i j,x=.int i∧y=.int j∧Q (g i j) H
def rU(g:Int→V):V→Hp→VK→Prop:=fun x H Q=>∃i,x=.int i∧Q (g i) H
section
variable {X:Cx} {a b c:Expr} {ta tb tc:TE} {pos:Pos}
theorem DC(ha:PE X a ta)(hb:PE X b tb){pins:List (Addr×Obj)}{s:Shared}{σ:St}{H:Hp}{R:V→V→Hp→Prop}(I:Inv X pins σ H s)
  (h:ta σ H fun x H1=>tb σ H1 fun y H2=>R x y H2) {Q:Value→Shared→Prop} {f:Value→Value→Sem Value}
  (hf:∀v u s2 x y H2,Inv X pins σ H2 s2→RelV x v→RelV y u→R x y H2→wpAny (model X.prog X.w) X.A (f v u) Q X.xe s2):
  wpAny (model X.prog X.w) X.A (eval a X.env) (fun v s₁=>wpAny (model X.prog X.w) X.A (eval b X.env) (fun u s₂=>wpAny (model X.prog X.w) X.A (f v u) Q X.xe s₂) X.xe s₁) X.xe s:=by
 refine eG (ha pins s σ H _ I h) fun v s1 ⟨x,H1,I1,r1,q1⟩=>?_
 refine eG (hb pins s1 σ H1 _ I1 q1) fun u s2 ⟨y,H2,I2,r2,q2⟩=>?_
 exact hf v u s2 x y H2 I2 r1 r2 q2
theorem Fg{op:Operator}{r:R2}(ho:OpR X (binaryOp op) r)(ha:PE X a ta)(hb:PE X b tb):PE X (.BinOp a op b pos) (Ff r ta tb):=by
 intro pins s σ H Q I h
 exact wpAny_BinOp (DC ha hb I h fun v u s2 x y H2 I2 rx ry q=>ho pins s2 σ H2 x y v u Q I2 rx ry q)
theorem Fh{op:UnaryOp}{r:V→Hp→VK→Prop}(ho:GE X (unaryOp op) r)(ha:PE X a ta):PE X (.UnaryOp op a pos) (Hr r ta):=by
 intro pins s σ H Q I h
 exact UnaryOp_ (eG (ha pins s σ H _ I h) fun v s1 ⟨x,H1,I1,r1,q1⟩=>ho pins s1 σ H1 x v Q I1 r1 q1)
theorem GG{f:Value→Value→Sem Value}{C:Int→Int→Prop}{g:Int→Int→Int}
  (rule:∀(i j:Int) (t u:Tok) (s:Shared) (Q:Value→Shared→Prop) (E:Value→Shared→Prop),C i j→Q (.int (g i j) s.toks) {s with toks:=s.toks+1}→wpAny (model X.prog X.w) X.A (f (.int i t) (.int j u)) Q E s):
  OpR X f (rI C fun i j=>.int (g i j)):=by
 intro pins s σ H x y v u Q I rx ry h
 obtain⟨i,j,rfl,rfl,hc,q⟩:=h
 obtain⟨t,rfl⟩:=rx
 obtain⟨t',rfl⟩:=ry
 exact rule i j t t' s _ _ hc ⟨.int (g i j),H,I.tok _,⟨_,rfl⟩,q⟩
theorem DD{f:Value→Value→Sem Value}{g:Int→Int→Int}
  (rule:∀(i j:Int) (t u:Tok) (s:Shared) (Q:Value→Shared→Prop) (E:Value→Shared→Prop),Q (.int (g i j) s.toks) {s with toks:=s.toks+1}→wpAny (model X.prog X.w) X.A (f (.int i t) (.int j u)) Q E s):
  OpR X f (Bd fun i j=>.int (g i j)):=by
 intro pins s σ H x y v u Q I rx ry h
 obtain⟨i,j,rfl,rfl,q⟩:=h
 obtain⟨t,rfl⟩:=rx
 obtain⟨t',rfl⟩:=ry
 exact rule i j t t' s _ _ ⟨.int (g i j),H,I.tok _,⟨_,rfl⟩,q⟩
theorem Be{f:Value→Value→Sem Value}{g:Int→Int→Bool}
  (rule:∀(i j:Int) (t u:Tok) (s:Shared) (Q:Value→Shared→Prop) (E:Value→Shared→Prop),Q (.bool (g i j)) s→wpAny (model X.prog X.w) X.A (f (.int i t) (.int j u)) Q E s):
  OpR X f (Bd fun i j=>.bl (g i j)):=by
 intro pins s σ H x y v u Q I rx ry h
 obtain⟨i,j,rfl,rfl,q⟩:=h
 obtain⟨t,rfl⟩:=rx
 obtain⟨t',rfl⟩:=ry
 exact rule i j t t' s _ _ ⟨.bl (g i j),H,I,rfl,q⟩
def CMul(i j:Int):Prop:=(-(2 ^ 64) < i∧i < 2 ^ 64)∨(-(2 ^ 64) < j∧j < 2 ^ 64)
theorem CMul.ok{i j:Int}(h:CMul i j):IntMulOk i j:=by
 rcases h with⟨h1,h2⟩ |⟨h1,h2⟩
 ·exact .of_left (intBits_le_64 h1 h2)
 ·exact .of_right (intBits_le_64 h1 h2)
theorem DE:OpR X (binaryOp .Add) (Bd fun i j=>.int (i+j)):=DD fun _ _ _ _ _ _ _ q=>add_int q
theorem DF:OpR X (binaryOp .Sub) (Bd fun i j=>.int (i - j)):=DD fun _ _ _ _ _ _ _ q=>sub_int q
theorem DG:OpR X (binaryOp .Mod) (rI (fun _ j=>0 < j) fun i j=>.int (i % j)):=GG fun i j _ _ _ _ _ hc q=>by
 have h1:(0:Int) < j:=hc
 exact mod_int' (by omega) (by rw[Int.fmod_eq_emod_of_nonneg i (by omega)];exact q)
theorem DH:OpR X (binaryOp .BitAnd) (Bd fun i j=>.int (Builtin.bitAnd i j)):=DD fun _ _ _ _ _ _ _ q=>and_int q
theorem Hs{f:Value→Sem Value}{g:Int→Int}
  (rule:∀(i:Int) (t:Tok) (s:Shared) (Q:Value→Shared→Prop) (E:Value→Shared→Prop),Q (.int (g i) s.toks) {s with toks:=s.toks+1}→wpAny (model X.prog X.w) X.A (f (.int i t)) Q E s):
  GE X f (rU fun i=>.int (g i)):=by
 intro pins s σ H x v Q I rx h
 obtain⟨i,rfl,q⟩:=h
 obtain⟨t,rfl⟩:=rx
 exact rule i t s _ _ ⟨.int (g i),H,I.tok _,⟨_,rfl⟩,q⟩
theorem DI:GE X (unaryOp .USub) (rU fun i=>.int (-i)):=Hs fun _ _ _ _ _ q=>neg_int q
end
def DJ:V→V→Bool
 |.non,.non=>true |.non,.int _=>true |.int _,.non=>true |.non,.bl _=>true |.bl _,.non=>true |.non,.str _=>true |.str _,.non=>true
 |.int _,.int _=>true |.bl _,.bl _=>true |.str _,.str _=>true |.byt _,.byt _=>true
 |.int _,.str _=>true |.str _,.int _=>true |.bl _,.str _=>true |.str _,.bl _=>true
 |_,_=>false
def Hj:R2:=fun x y H Q=>DJ x y=true∧Q (.bl (decide (x=y))) H
def Hk:R2:=fun x y H Q=>DJ x y=true∧Q (.bl (!decide (x=y))) H
theorem vL{i j:Int}:decide (V.int i=V.int j)=(i == j):=by
 rw[Bool.eq_iff_iff]
 simp
theorem yo{i j:Bool}:decide (V.bl i=V.bl j)=(i == j):=by
 rw[Bool.eq_iff_iff]
 simp
theorem vM{i j:Str}:decide (V.str i=V.str j)=(i == j):=by
 rw[Bool.eq_iff_iff]
 simp
theorem vN{i j:Array UInt8}:decide (V.byt i=V.byt j)=(i.toList == j.toList):=by
 rw[Bool.eq_iff_iff]
 cases i
 cases j
 simp
section
variable {X:Cx} {a b c:Expr} {ta tb tc:TE} {pos:Pos}
theorem aZ{pins:List (Addr×Obj)}{σ:St}{H:Hp}{s:Shared}{Q:VK}{k k':Bool}(I:Inv X pins σ H s)(q:Q (.bl k) H)(e:k=k'):EP X pins σ Q (.bool k') s:=by
 subst e
 exact⟨.bl k,H,I,rfl,q⟩
theorem CQ:OpR X (compareOp .Eq) Hj:=by
 intro pins s σ H x y v u Q I rx ry h
 obtain⟨hs,q⟩:=h
 cases x with
 |non=>
  cases rx
  cases y with
  |non=>cases ry;exact PySem.EqNone.eq_none_none (aZ I q (by simp))
  |bl j=>cases ry;exact PySem.EqNone.eq_none_bool (aZ I q (by simp))
  |int j=>obtain⟨t',rfl⟩:=ry;exact PySem.EqNone.eq_none_int (aZ I q (by simp))
  |str j=>obtain⟨t',rfl⟩:=ry;exact PySem.EqNone.eq_none_str (aZ I q (by simp))
  |_=>exact absurd (show false=true from hs) qI
 |bl i=>
  cases rx
  cases y with
  |non=>cases ry;exact PySem.EqNone.eq_bool_none (aZ I q (by simp))
  |bl j=>cases ry;exact eq_bool (aZ I q yo)
  |str j=>obtain⟨t',rfl⟩:=ry;exact PySem.EqMixed.eq_bool_str (aZ I q (by simp))
  |_=>exact absurd (show false=true from hs) qI
 |int i=>
  obtain⟨t,rfl⟩:=rx
  cases y with
  |non=>cases ry;exact PySem.EqNone.eq_int_none (aZ I q (by simp))
  |int j=>obtain⟨t',rfl⟩:=ry;exact eq_int (aZ I q vL)
  |str j=>obtain⟨t',rfl⟩:=ry;exact PySem.EqMixed.eq_int_str (aZ I q (by simp))
  |_=>exact absurd (show false=true from hs) qI
 |str i=>
  obtain⟨t,rfl⟩:=rx
  cases y with
  |non=>cases ry;exact PySem.EqNone.eq_str_none (aZ I q (by simp))
  |bl j=>cases ry;exact PySem.EqMixed.eq_str_bool (aZ I q (by simp))
  |int j=>obtain⟨t',rfl⟩:=ry;exact PySem.EqMixed.eq_str_int (aZ I q (by simp))
  |str j=>obtain⟨t',rfl⟩:=ry;exact eq_str (aZ I q vM)
  |_=>exact absurd (show false=true from hs) qI
 |byt i=>
  obtain⟨t,rfl⟩:=rx
  cases y with
  |byt j=>obtain⟨t',rfl⟩:=ry;exact PySem.W.eq_bytes (aZ I q vN)
  |_=>exact absurd (show false=true from hs) qI
 |_=>cases y <;> exact absurd (show false=true from hs) qI
theorem Fi:OpR X (compareOp .NotEq) Hk:=by
 intro pins s σ H x y v u Q I rx ry h
 obtain⟨hs,q⟩:=h
 cases x with
 |non=>
  cases rx
  cases y with
  |non=>cases ry;exact PySem.EqNone.ne_none_none (aZ I q (by simp))
  |bl j=>cases ry;exact PySem.EqNone.ne_none_bool (aZ I q (by simp))
  |int j=>obtain⟨t',rfl⟩:=ry;exact PySem.EqNone.ne_none_int (aZ I q (by simp))
  |str j=>obtain⟨t',rfl⟩:=ry;exact PySem.EqNone.ne_none_str (aZ I q (by simp))
  |_=>exact absurd (show false=true from hs) qI
 |bl i=>
  cases rx
  cases y with
  |non=>cases ry;exact PySem.EqNone.ne_bool_none (aZ I q (by simp))
  |bl j=>cases ry;exact ne_bool (aZ I q (congrArg not yo))
  |str j=>obtain⟨t',rfl⟩:=ry;exact PySem.EqMixed.ne_bool_str (aZ I q (by simp))
  |_=>exact absurd (show false=true from hs) qI
 |int i=>
  obtain⟨t,rfl⟩:=rx
  cases y with
  |non=>cases ry;exact PySem.EqNone.ne_int_none (aZ I q (by simp))
  |int j=>obtain⟨t',rfl⟩:=ry;exact ne_int (aZ I q (congrArg not vL))
  |str j=>obtain⟨t',rfl⟩:=ry;exact PySem.EqMixed.ne_int_str (aZ I q (by simp))
  |_=>exact absurd (show false=true from hs) qI
 |str i=>
  obtain⟨t,rfl⟩:=rx
  cases y with
  |non=>cases ry;exact PySem.EqNone.ne_str_none (aZ I q (by simp))
  |bl j=>cases ry;exact PySem.EqMixed.ne_str_bool (aZ I q (by simp))
  |int j=>obtain⟨t',rfl⟩:=ry;exact PySem.EqMixed.ne_str_int (aZ I q (by simp))
  |str j=>obtain⟨t',rfl⟩:=ry;exact ne_str (aZ I q (congrArg not vM))
  |_=>exact absurd (show false=true from hs) qI
 |byt i=>
  obtain⟨t,rfl⟩:=rx
  cases y with
  |byt j=>obtain⟨t',rfl⟩:=ry;exact PySem.W.ne_bytes (aZ I q (congrArg not vN))
  |_=>exact absurd (show false=true from hs) qI
 |_=>cases y <;> exact absurd (show false=true from hs) qI
theorem Fj:OpR X (compareOp .Lt) (Bd fun i j=>.bl (decide (i < j))):=Be fun _ _ _ _ _ _ _ q=>lt_int q
theorem Fk:OpR X (compareOp .LtE) (Bd fun i j=>.bl (decide (i≤j))):=Be fun _ _ _ _ _ _ _ q=>le_int q
theorem Fm:OpR X (compareOp .Gt) (Bd fun i j=>.bl (decide (j < i))):=Be fun _ _ _ _ _ _ _ q=>gt_int q
theorem Fn:OpR X (compareOp .GtE) (Bd fun i j=>.bl (decide (j≤i))):=Be fun _ _ _ _ _ _ _ q=>ge_int q
theorem wU:OpR X (compareOp .Lt) (fun x y H Q=>∃i j,x=.str i∧y=.str j∧Q (.bl (decide (i.cps.toList < j.cps.toList))) H):=by
 intro pins s σ H x y v u Q I rx ry h
 obtain⟨i,j,rfl,rfl,q⟩:=h
 obtain⟨t,rfl⟩:=rx
 obtain⟨t',rfl⟩:=ry
 exact lt_str (aZ I q rfl)
theorem wV:OpR X (compareOp .In) (fun x y H Q=>∃i j,x=.str i∧y=.str j∧Q (.bl (!(Builtin.Str.occurrences j i 0 j.length 1).isEmpty)) H):=by
 intro pins s σ H x y v u Q I rx ry h
 obtain⟨i,j,rfl,rfl,q⟩:=h
 obtain⟨t,rfl⟩:=rx
 obtain⟨t',rfl⟩:=ry
 exact in_str (aZ I q rfl)
theorem OpR.or{f:Value→Value→Sem Value}{r r':R2}(h:OpR X f r)(h':OpR X f r'):OpR X f (fun x y H Q=>r x y H Q∨r' x y H Q):=by
 intro pins s σ H x y v u Q I rx ry q
 rcases q with q |q
 ·exact h pins s σ H x y v u Q I rx ry q
 ·exact h' pins s σ H x y v u Q I rx ry q
theorem qL(b:Expr){op:CmpOp}(h:op≠ .In:=by decide)(h2:op≠ .NotIn:=by decide):behindInMarks op b=false:=by
 have e1:(op == CmpOp.In)=false:=by cases op <;> first |rfl |exact absurd rfl h
 have e2:(op == CmpOp.NotIn)=false:=by cases op <;> first |rfl |exact absurd rfl h2
 cases b <;> simp[behindInMarks,e1,e2]
theorem Bf{op:CmpOp}{r:R2}(ho:OpR X (compareOp op) r)(ha:PE X a ta)(hb:PE X b tb)(hm:behindInMarks op b=false):PE X (.Compare a [op] [b] pos) (Ff r ta tb):=by
 intro pins s σ H Q I h
 exact wpAny_Compare1 (DC ha hb I h fun v u s2 x y H2 I2 rx ry q=>ho pins s2 σ H2 x y v u Q I2 rx ry q) hm
def Fo(t:TE):TT:=fun σ H Q=>t σ H fun x H'=>∃k,x=.bl k∧Q k H'
theorem Bg{op:CmpOp}{r:R2}(ho:OpR X (compareOp op) r)(ha:PE X a ta)(hb:PE X b tb)(hm:behindInMarks op b=false):PT X (.Compare a [op] [b] pos) (Fo (Ff r ta tb)):=by
 intro pins s σ H Q I h
 refine wpAny_isTrue_Compare1 (eG (ha pins s σ H _ I h) fun v s1 ⟨x,H1,I1,r1,q1⟩=>eG (hb pins s1 σ H1 _ I1 q1) fun u s2 ⟨y,H2,I2,r2,q2⟩=>
  eG (ho pins s2 σ H2 x y v u _ I2 r1 r2 q2) fun c s3 ⟨z,H3,I3,r3,k,e,q3⟩=>?_) hm
 subst e
 cases r3
 exact wpAny_truthy_bool ⟨H3,I3,q3⟩
def yp(r r':R2)(ta tb tc:TE):TE:=fun σ H Q=>ta σ H fun x H1=>tb σ H1 fun y H2=>r x y H2 fun z H3=>∃k,z=.bl k∧
 (if k=true then tc σ H3 fun w' H4=>r' y w' H4 Q else Q (.bl false) H3)
theorem yq{op op':CmpOp}{r r':R2}(ho:OpR X (compareOp op) r)(ho':OpR X (compareOp op') r')(ha:PE X a ta)(hb:PE X b tb)(hc:PE X c tc)
  (hm:lastMarks [op,op'] [b,c]=false:=by with_unfolding_all rfl):PE X (.Compare a [op,op'] [b,c] pos) (yp r r' ta tb tc):=by
 intro pins s σ H Q I h
 refine Compare_chain (eG (ha pins s σ H _ I h) fun v s1 ⟨x,H1,I1,r1,q1⟩=>chain_link (eG (hb pins s1 σ H1 _ I1 q1) fun u s2 ⟨y,H2,I2,r2,q2⟩=>
  eG (ho pins s2 σ H2 x y v u _ I2 r1 r2 q2) fun d s3 ⟨z,H3,I3,r3,k,e,q3⟩=>?_)) hm
 subst e
 cases r3
 refine wpAny_truthy_bool ?_
 cases k with
 |false=>exact ite_ff ⟨.bl false,H3,I3,rfl,q3⟩
 |true=>exact ite_tt (chain_last (eG (hc pins s3 σ H3 _ I3 q3) fun w' s4 ⟨z',H4,I4,r4,q4⟩=>ho' pins s4 σ H4 y z' u w' Q I4 r2 r4 q4))
def yr(K:Frag)(x:V)(H:Hp)(k:Bool):Prop:=
 match x with
 |.non=>k=false
 |.bl b=>k=b
 |.int i=>k=(i != 0)
 |.str y=>y.length≤sizeLine∧k=((y.length:Int) != 0)
 |.byt y=>y.size≤sizeLine∧k=((y.size:Int) != 0)
 |.ref p=>(∃xs,SqL K H p xs∧k= !xs.isEmpty)∨(∃xs,SqT K H p xs∧k= !xs.isEmpty)∨∃kvs,H p=some (.dK kvs)∧k= !kvs.isEmpty
 |_=>False
theorem uG{κ:Type}{kvs:List (κ×V)}{vs:List (κ×Value)}(r:KV kvs vs):(!vs.isEmpty)= !kvs.isEmpty:=by
 cases r <;> rfl
theorem nW{xs:List V}{its:List Value}(r:Vals xs its):(!its.toArray.isEmpty)= !xs.isEmpty:=by
 cases r <;> simp
theorem md:(sizeLine:Nat) < 2 ^ 63:=by rw[sizeLine_eq];decide
theorem DK:GF X (fun x H Q=>∃k,yr X.K x H k∧Q k H):=by
 intro pins s σ H x v Q I rx h
 obtain⟨k,e,q⟩:=h
 have hl:=md
 have hs:sizeLine=16777216:=sizeLine_eq
 cases x with
 |non=>
  cases rx
  have e':k=false:=e
  subst e'
  exact truthy_none ⟨H,I,q⟩
 |bl b=>
  cases rx
  have e':k=b:=e
  subst e'
  exact wpAny_truthy_bool ⟨H,I,q⟩
 |int i=>
  obtain⟨t,rfl⟩:=rx
  have e':k=(i != 0):=e
  subst e'
  exact PySem.P.truthy_int ⟨H,I,q⟩
 |str y=>
  obtain⟨t,rfl⟩:=rx
  obtain⟨hy,e'⟩:y.length≤sizeLine∧k=((y.length:Int) != 0):=e
  subst e'
  exact PySem.P.truthy_str (by omega) ⟨H,I.tok _,q⟩
 |byt y=>
  obtain⟨t,rfl⟩:=rx
  obtain⟨hy,e'⟩:y.size≤sizeLine∧k=((y.size:Int) != 0):=e
  subst e'
  exact PySem.W.truthy_bytes (by omega) ⟨H,I.tok _,q⟩
 |ref p=>
  cases rx
  have e':(∃xs,SqL X.K H p xs∧k= !xs.isEmpty)∨(∃xs,SqT X.K H p xs∧k= !xs.isEmpty)∨∃kvs,H p=some (.dK kvs)∧k= !kvs.isEmpty:=e
  rcases e' with⟨xs,hx,e'⟩ |⟨xs,hx,e'⟩ |⟨kvs,hx,e'⟩
  ·subst e'
   obtain⟨its,r,pl,hz⟩:=I.list hx
   have hlen:=r.length
   exact wpAny_truthy_list pl.isList (by simp only[l_];omega) ⟨H,I.tok _,by rw[nW r];exact q⟩
  ·subst e'
   obtain⟨its,r,pl,hz⟩:=I.tuple hx
   have hlen:=r.length
   exact truthy_tuple pl (by simp only[l_];omega) ⟨H,I.tok _,by rw[nW r];exact q⟩
  ·subst e'
   obtain⟨hz,hS,vs,r,m⟩:kvs.length≤sizeLine∧(p == sysModules)=false∧∃vs,KV kvs vs∧s.heap.DictOf (nJ X.prog X.w) p vs:=I.hok p _ hx
   have hlen:kvs.length=vs.length:=Paired.length r
   exact wpAny_truthy_dict hS m (by omega) ⟨H,I.tok _,by rw[uG r];exact q⟩
 |_=>exact(show False from e).elim
theorem yt(ha:PE X a ta)(he:∀whole,isTrue a X.env whole=(do let v ←whole;standAt a.pos;holding [v] (truthy v))):
  PT X a (fun σ H Q=>ta σ H fun x H'=>∃k,yr X.K x H' k∧Q k H'):=by
 intro pins s σ H Q I h
 exact isTrue_plain (eG (ha pins s σ H _ I h) fun v s1 ⟨x,H1,I1,r1,q1⟩=>DK pins s1 σ H1 x v Q I1 r1 q1) (he _)
theorem uH:OpR X (binaryOp .Add) (fun x y H Q=>∃i j,x=.str i∧y=.str j∧i.length+j.length≤sizeLine∧Q (.str (i++j)) H):=by
 intro pins s σ H x y v u Q I rx ry h
 obtain⟨i,j,rfl,rfl,hz,q⟩:=h
 obtain⟨t,rfl⟩:=rx
 obtain⟨t',rfl⟩:=ry
 exact add_str (fun t' tk=>⟨.str (i++j),H,I.tok _,⟨_,rfl⟩,q⟩) hz
theorem yu{x:V}{us:List Value}(r:Vals [x] us):∃u,us=[u]∧RelV x u:=by
 cases r with
 |cons r1 r2=>cases r2;exact⟨_,rfl,r1⟩
end
end L2
namespace L2
open PySem PySem.Spec PyProof.Rows
structure ObjM (h:Heap) (x dx C:Addr) (mA:Str→Option Value):Prop where
 obj:h.get? x=some (instObj C dx)
 ns:h.Ns1 dx mA
 ne:dx≠x
theorem wW{h:Heap}{dx:Addr}{mA:Str→Option Value}(n:h.Ns1 dx mA):∃od,h.get? dx=some od∧∀name,lookIn name od=some (mA name):=by
 obtain⟨o,es,ep,ho,hd,hk,_,hm⟩:=n
 refine⟨o,ho,fun name=>?_⟩
 have e:=hm name
 unfold nsFind findBy at e
 rw[←Array.find?_toList]at e
 unfold lookIn
 rw[hd]
 dsimp only
 split
 ·rename_i y q
  rw[q]at e
  exact congrArg some e
 ·rename_i q
  rw[q]at e
  have a:es.toList.any (·.refKey)=false:=by
   rw[List.any_eq_false]
   intro y hy
   obtain⟨z,t,hkey⟩:=hk y (Array.mem_toList_iff.mp hy)
   simp[DictEntry.refKey,hkey]
  have a':¬es.toList.any (·.refKey)=true:=by rw[a];exact qI
  rw[if_neg a']
  exact congrArg some e
theorem ObjM.look{h:Heap}{x dx C:Addr}{mA:Str→Option Value}(I:ObjM h x dx C mA):∃od,PySem.W.InstAt h x (instObj C dx) C (some od)∧∀name,lookIn name od=some (mA name):=
 let ⟨od,ho,hl⟩:=wW I.ns
 ⟨od,⟨I.obj,rfl,rfl,ho⟩,hl⟩
section
variable {P:Program} {w:World} {H H':Hp} {h h':Heap} {a C dx:Addr} {fs fs':List (Str×V)}
theorem Bh(hok:HOk P w H h)(e:H a=some (.ins C dx fs)):∃mA,ObjM h a dx C mA∧(∀f,RelO (fs.lookup f) (mA f))∧PySem.Within mA (fs.map (·.1))∧fs.length≤1000∧H dx=some (.own a):=by
 obtain⟨d,z,ne,ob,mA,n,r,q⟩:=(show ObjOk P w H h a (.ins C dx fs)from hok a _ e)
 exact⟨mA,⟨ob,n,ne⟩,r,q,z,d⟩
end
structure Cls (K:Frag) (C:Addr):Prop where
 pg:PySem.W.plainGet K C Str.empty=true
 hd:PySem.W.hasDictIn K C=true
 po:PySem.W.plainOver K C=true
 sa:findIn K (.ref C) "__setattr__"=some (some (.builtin "object.__setattr__"))
theorem Cls.get{K:Frag}{C:Addr}(c:Cls K C)(f:Str):PySem.W.plainGet K C f=true:=c.pg
section
variable {X:Cx} {pins:List (Addr×Obj)} {σ:St} {H:Hp} {s:Shared} {a C dx:Addr} {fs:List (Str×V)} {f:Str} {v:V} {A:Around} {E:Value→Shared→Prop}
theorem Inv.made(I:Inv X pins σ H s):Inv X pins σ (upd (upd H s.heap.objs.size (.own (s.heap.objs.size+1))) (s.heap.objs.size+1) (.ins C s.heap.objs.size []))
  {s with heap:=(s.heap.push emptyDict).push (instObj C s.heap.objs.size)}:=by
 have e1:(s.heap.push emptyDict).get? s.heap.objs.size=some emptyDict:=lh s.heap rfl
 have e2:((s.heap.push emptyDict).push (instObj C s.heap.objs.size)).get? (s.heap.objs.size+1)=some (instObj C s.heap.objs.size):=by
  have:=lh (s.heap.push emptyDict) (o:=instObj C s.heap.objs.size) rfl
  rwa [Heap.size_push]at this
 have e3:(s.heap.push emptyDict).Ns s.heap.objs.size (fun _=>none):=⟨emptyDict,#[],_,e1,rfl,(fun e he=>absurd he (by simp)),fun _=>rfl⟩
 have I1:=I.laid (a:=s.heap.objs.size) (o:=.own (s.heap.objs.size+1)) (h':=s.heap.push emptyDict) (t':=s.toks) (fun b u q=>gw _ q) (fQ _) ⟨_,e1⟩
 refine I1.laid (a:=s.heap.objs.size+1) (o:=.ins C s.heap.objs.size []) (t':=s.toks) (fun b u q=>gw _ q) (Nat.le_of_eq (Heap.size_push _ _)) ?_
 have ne:s.heap.objs.size≠s.heap.objs.size+1:=gI (Nat.lt_succ_self _)
 refine⟨by rw[aB ne,upd_same],Nat.zero_le _,ne,e2,fun _=>none,(Heap.Ns1.of_empty e3).at fun o q=>gw _ q,fun _=>True.intro,fun y hy=>absurd rfl hy⟩
end
section
variable {X:Cx} {pins:List (Addr×Obj)} {σ:St} {H:Hp} {s:Shared} {A:Around} {E:Value→Shared→Prop} {Q:Value→Shared→Prop} {c:Value} {b:Bool}
inductive TyOf (K:Frag) (H:Hp):V→Value→Prop where
 |non:TyOf K H .non (.type "NoneType")
 |bl (x:Bool):TyOf K H (.bl x) (.type "bool")
 |int (i:Int):TyOf K H (.int i) (.type "int")
 |str (x:Str):TyOf K H (.str x) (.type "str")
 |flt (x:UInt64):TyOf K H (.flt x) (.type "float")
 |lst {a:Addr} {xs:List V} (e:H a=some (.lst xs)):TyOf K H (.ref a) (.type "list")
 |frz {a:Addr} {o:Obj} {xs:List V} (e:H a=some (.frz o (.lst xs))):TyOf K H (.ref a) (.type "list")
 |tup {a:Addr} {xs:List V} (e:H a=some (.tup xs)):TyOf K H (.ref a) (.type "tuple")
 |dK {a:Addr} {kvs:List (iC×V)} (e:H a=some (.dK kvs)):TyOf K H (.ref a) (.type "dict")
 |dT {a:Addr} {kvs:List (List iC×V)} (e:H a=some (.dT kvs)):TyOf K H (.ref a) (.type "dict")
 |ins {a C dx:Addr} {fs:List (Str×V)} (e:H a=some (.ins C dx fs)) (cl:Cls K C) (ha:findIn K (.ref C) "__class__"=some (some (.builtin "object.__class__")))
   (hn:PySem.W.specialIn K (.builtin "object.__class__") "__get__"=some (some (.builtin "getset_descriptor.__get__"))) (htk:PySem.W.takesIn K (.builtin "object.__class__")=some true)
   (hm:mroIn K C (.type "object")=some true):TyOf K H (.ref a) (.ref C)
theorem jT{x:V}{u t:Value}(I:Inv X pins σ H s)(rx:RelV x u)(ty:TyOf X.K H x t)(e:kitOne X.K t c=some b)(h:∀tk,Q (.bool b) {s with toks:=tk}):
  wpAny (model X.prog X.w) A (call (.builtin "isinstance") [u,c]) Q E s:=by
 cases ty with
 |non=>cases(show u=Value.none from rx);exact kia_one PySem.W.kitx_none I.kIn True.intro e (fun z=>nomatch z) h
 |bl y=>cases(show u=Value.bool y from rx);exact kia_one PySem.W.kitx_bool I.kIn True.intro e (fun z=>nomatch z) h
 |int i=>obtain⟨t,q⟩:=(show ∃t,u=Value.int i t from rx);cases q;exact kia_one PySem.W.kitx_int I.kIn True.intro e (fun z=>nomatch z) h
 |str y=>obtain⟨t,q⟩:=(show ∃t,u=Value.str y t from rx);cases q;exact kia_one PySem.W.kitx_str I.kIn True.intro e (fun z=>nomatch z) h
 |flt y=>obtain⟨t,q⟩:=(show ∃t,u=Value.float y t from rx);cases q;exact kia_one PySem.W.kitx_float I.kIn True.intro e (fun z=>nomatch z) h
 | @lst a xs ea=>
  cases(show u=Value.ref a from rx)
  obtain⟨_,_,n,_,h1⟩:=(show ObjOk X.prog X.w H s.heap a (.lst xs)from I.hok a _ ea)
  exact kia_one kitx_list I.kIn ⟨_,h1,rfl⟩ e (fun z=>nomatch z) h
 | @frz a ob xs ea=>
  cases(show u=Value.ref a from rx)
  obtain⟨_,_,_,n,_,h1⟩:=(show ObjOk X.prog X.w H s.heap a (.frz ob (.lst xs))from I.hok a _ ea)
  exact kia_one kitx_list I.kIn ⟨_,h1,rfl⟩ e (fun z=>nomatch z) h
 | @tup a xs ea=>
  cases(show u=Value.ref a from rx)
  obtain⟨_,_,_,p⟩:=(show ObjOk X.prog X.w H s.heap a (.tup xs)from I.hok a _ ea)
  obtain⟨o,h1,h2,_⟩:=p
  exact kia_one PySem.W.kitx_tuple I.kIn ⟨o,h1,h2⟩ e (fun z=>nomatch z) h
 | @dK a kvs ea=>
  cases(show u=Value.ref a from rx)
  obtain⟨_,_,vs,_,p⟩:=(show ObjOk X.prog X.w H s.heap a (.dK kvs)from I.hok a _ ea)
  obtain⟨o,es,ep,h1,h2,_⟩:=p
  exact kia_one kitx_dict I.kIn ⟨o,h1,h2.1⟩ e (fun z=>nomatch z) h
 | @dT a kvs ea=>
  cases(show u=Value.ref a from rx)
  obtain⟨_,_,xs,_,o,es,ep,h1,h2,_⟩:=(show ObjOk X.prog X.w H s.heap a (.dT kvs)from I.hok a _ ea)
  exact kia_one kitx_dict I.kIn ⟨o,h1,h2.1⟩ e (fun z=>nomatch z) h
 | @ins a C dx fs ea cl ha hn htk hm=>
  cases(show u=Value.ref a from rx)
  obtain⟨mA,O,_⟩:=Bh I.hok ea
  obtain⟨od,J,_⟩:=O.look
  exact kia_one (PySem.W.kitx_own (cl.get _) cl.hd ha hn htk hm) I.kIn J e (fun z=>nomatch z) h
end
end L2
namespace L2
open PySem PySem.Spec PyProof.Rows
structure Room (k:Nat) (A:Around):Prop where
 hd:A.handled=none
 dp:A.depth+3*k+5 < recursionLimit
 un:A.units+16*k+200 < cLine
theorem Room.mono{j k:Nat}{A:Around}(r:Room k A)(h:j≤k):Room j A:=⟨r.hd,by have:=r.dp;omega,by have:=r.un;omega⟩
theorem Room.deeper{k:Nat}{A:Around}(r:Room (k+1) A)(env:Env):Room k (A.deeper env):=
 ⟨r.hd,by have:=r.dp;show A.depth+1+3*k+5 < _;omega,by have:=r.un;show A.units+3+16*k+200 < _;omega⟩
theorem Room.in1{k:Nat}{A:Around}(r:Room (k+1) A):Room k A.in1:=
 ⟨r.hd,by have:=r.dp;show A.depth+3*k+5 < _;omega,by have:=r.un;show A.units+1+16*k+200 < _;omega⟩
theorem Room.depth{k:Nat}{A:Around}(r:Room k A):A.depth < recursionLimit:=by have:=r.dp;omega
theorem Room.units{k:Nat}{A:Around}(r:Room k A):A.units+64 < cLine:=by have:=r.un;omega
def GH:TA:=fun _ H Q=>Q [] H
def Fp(ta:TE)(tr:TA):TA:=fun σ H Q=>ta σ H fun x H1=>tr σ H1 fun xs H2=>Q (x::xs) H2
section
variable {X:Cx} {e:Expr} {es:List Expr} {te:TE} {t:TA} {pos:Pos}
theorem gy:PA X [] GH:=fun _ _ _ _ H Q I h=>Calls.spliced_nil ⟨[],H,I,.nil,h⟩
theorem eI(ha:PE X e te)(hr:PA X es t)(hs:starEach (e::es) X.env=(false,eval e X.env)::starEach es X.env:=by rfl):PA X (e::es) (Fp te t):=by
 intro pos pins s σ H Q I h
 rw[hs]
 show wpAny _ _ (spliced ((false,eval e X.env)::backTo pos (starEach es X.env))) _ _ s
 refine Calls.spliced_cons (eG (ha pins s σ H _ I h) fun u s1 ⟨x,H1,I1,r1,q1⟩=>?_)
 exact eG (hr pos pins s1 σ H1 _ I1 q1) fun us s2 ⟨xs,H2,I2,r2,q2⟩=>⟨x::xs,H2,I2,.cons r1 r2,q2⟩
def GI(t:TA):TE:=fun σ H Q=>t σ H fun xs H1=>xs.length≤sizeLine∧∀p,H1 p=none→Q (.ref p) (upd H1 p (.tup xs))
def GJ(t:TA):TE:=fun σ H Q=>t σ H fun xs H1=>xs.length≤sizeLine∧∀p,H1 p=none→Q (.ref p) (upd H1 p (.lst xs))
theorem DM{x1}(h:PA X es t):PE X (.Tuple es x1 pos) (GI t):=by
 intro pins s σ H Q I hq
 refine wpAny_Tuple_spliced (eG (h pos pins s σ H _ I hq) fun us s1 ⟨xs,H1,I1,r,z,q⟩=>⟨by rw[←r.length];exact z,?_⟩)
 have hf:H1 s1.heap.objs.size=none:=I1.hok.fresh (fQ _)
 refine⟨.ref s1.heap.objs.size,upd H1 s1.heap.objs.size (.tup xs),I1.laid (t':=s1.toks) (fun b u e=>gw _ e) (fQ _) ?_,rfl,q _ hf⟩
 exact⟨z,us,r,⟨_,lh _ rfl,rfl,_,rfl⟩⟩
theorem yw(h:PA X es t):PE X (.List es pos) (GJ t):=by
 intro pins s σ H Q I hq
 refine wpAny_List_spliced (eG (h pos pins s σ H _ I hq) fun us s1 ⟨xs,H1,I1,r,z,q⟩=>⟨by rw[←r.length];exact z,?_⟩)
 have hf:H1 s1.heap.objs.size=none:=I1.hok.fresh (fQ _)
 refine⟨.ref s1.heap.objs.size,upd H1 s1.heap.objs.size (.lst xs),I1.laid (t':=s1.toks) (fun b u e=>gw _ e) (fQ _) ?_,rfl,q _ hf⟩
 exact⟨z,us,0,r,lh _ rfl⟩
end
abbrev Sp:=List V→Hp→VK→XK→Prop
abbrev wX:=List Env→Hp→Shared→XK→Value→Shared→Prop
structure Env0 (P:Program) (w:World) (K:Frag) (mg:Str→Option Value) (base:Heap) (A:Around) (outer:List Env) (s:Shared) (H:Hp):Prop where
 frames:A.frames=some outer
 mod:Mod K mg base
 bs:∀b o,base.get? b=some o→s.heap.get? b=some o∧H b=none
 bsz:base.objs.size≤s.heap.objs.size
 funs:s.heap.FunFrames base outer
 frf:∀b∈jS outer,H b=none
 hok:HOk P w H s.heap
 bare:AllBare s.gens
 tab:∀b q,ji K b=some q→H b=some (.tbl q)
def CE(outer:List Env)(P:Program)(w:World)(H:Hp)(s:Shared)(Q:VK)(u:Value)(s':Shared):Prop:=
 ∃v H',s'.os=s.os∧AllBare s'.gens∧Un (jS outer) [] H H' s.heap s'.heap∧HOk P w H' s'.heap∧RelV v u∧Q v H'
def CR(CX:wX)(outer:List Env)(P:Program)(w:World)(H:Hp)(s:Shared)(Q:VK)(E:XK)(r:Result)(s':Shared):Prop:=
 match r with
 |.ok (.ret u)=>CE outer P w H s Q u s'
 |.ok _=>False
 |.error e=>CX outer H s E e s'
structure FnOk (P:Program) (w:World) (K:Frag) (mg:Str→Option Value) (base:Heap) (CX:wX) (k:Nat) (f:Addr) (fd:FuncData) (ps:List Str) (sp:Sp):Prop where
 len:∀vs H Q E,sp vs H Q E→vs.length=ps.length
 run:∀(A:Around) (outer:List Env) (s:Shared) (H:Hp) (args:Args) (us:List Value) (vs:List V) (Q:VK) (E:XK),Room k A→Env0 P w K mg base A outer s H→BindsTo s fd args (ps.zip us)→Vals vs us→sp vs H Q E→
  codeAny (model P w) A (.call (.ref f) args) (CR CX outer P w H s Q E) s
theorem FnOk.mono{P:Program}{w:World}{K:Frag}{mg:Str→Option Value}{base:Heap}{CX:wX}{j k:Nat}{f:Addr}{fd:FuncData}{ps:List Str}{sp:Sp}(F:FnOk P w K mg base CX j f fd ps sp)(h:j≤k):
  FnOk P w K mg base CX k f fd ps sp:=⟨F.len,fun A outer s H args us vs Q E hr=>F.run A outer s H args us vs Q E (hr.mono h)⟩
theorem FnOk.imp{P:Program}{w:World}{K:Frag}{mg:Str→Option Value}{base:Heap}{CX:wX}{k:Nat}{f:Addr}{fd:FuncData}{ps:List Str}{sp sp':Sp}(F:FnOk P w K mg base CX k f fd ps sp)
  (h:∀vs H Q E,sp' vs H Q E→sp vs H Q E):FnOk P w K mg base CX k f fd ps sp':=
 ⟨fun vs H Q E q=>F.len vs H Q E (h _ _ _ _ q),fun A outer s H args us vs Q E hr he hb hv hs=>F.run A outer s H args us vs Q E hr he hb hv (h _ _ _ _ hs)⟩
theorem Env0.in1{P:Program}{w:World}{K:Frag}{mg:Str→Option Value}{base:Heap}{A:Around}{outer:List Env}{s:Shared}{H:Hp}(e:Env0 P w K mg base A outer s H):
  Env0 P w K mg base A.in1 outer s H:=⟨e.frames,e.mod,e.bs,e.bsz,e.funs,e.frf,e.hok,e.bare,e.tab⟩
section
variable {X:Cx} {pins:List (Addr×Obj)} {σ:St} {H:Hp} {s s':Shared}
theorem Inv.env0(I:Inv X pins σ H s):Env0 X.prog X.w X.K X.mg X.base X.A X.stack s H:=
 ⟨I.ok.frames,I.ok.mod,I.bs,kb I.ok.bsz I.sz,I.stack,I.stkFree,I.hok,I.bare,I.tab⟩
theorem Inv.after{Q:VK}{u:Value}(I:Inv X pins σ H s)(h:CE X.stack X.prog X.w H s Q u s'):EP X pins σ Q u s':=by
 obtain⟨v,H',os,bare,un,hok,r,q⟩:=h
 obtain⟨hh,g,d,t,os'⟩:=s'
 obtain rfl:os'=s.os:=os
 exact⟨v,H',I.call (h':=hh) (g':=g) (d':=d) (t':=t) (ch:=[]) un hok bare (fun b z=>absurd z (by simp)),r,q⟩
end
def yx(sp:Sp)(dvs:List V)(E:XK)(t:TA):TE:=fun σ H Q=>t σ H fun vs H1=>sp (vs++dvs) H1 Q E
def Binds(K:Frag)(fd:FuncData)(ps:List Str)(ds:List Value):Prop:=
 ∀(s:Shared) (us:List Value),K.In s.heap→(us++ds).length=ps.length→BindsTo s fd ⟨us,[]⟩ (ps.zip (us++ds))
theorem Binds.all{K:Frag}{fd:FuncData}{ps:List Str}(h:∀us:List Value,us.length=ps.length→bindArgs fd ⟨us,[]⟩=pure (ps.zip us)):Binds K fd ps []:=fun s us _ hl=>by
 rw[qJ]at hl ⊢
 exact .of_eq (h us hl)
def uI(CX:wX)(X:Cx)(E:XK):Prop:=∀(pins:List (Addr×Obj)) (σ:St) (H:Hp) (s:Shared) (e:Value) (s':Shared),Inv X pins σ H s→CX X.stack H s E e s'→X.xe e s'
section
variable {X:Cx} {CX:wX} {k:Nat} {f C:Addr} {fd:FuncData} {ps:List Str} {sp:Sp} {dvs:List V} {ds:List Value} {E:XK} {x m:Str} {p pos apos:Pos} {e o:Expr} {es:List Expr} {ta:TE} {t:TA}
theorem DN{pins:List (Addr×Obj)}{σ:St}{H:Hp}{s:Shared}{Q:VK}{us:List Value}{vs:List V}(F:FnOk X.prog X.w X.K X.mg X.base CX k f fd ps sp)(hr:Room k X.A)(hb:Binds X.K fd ps ds)(hd:Vals dvs ds)(hx:uI CX X E)
  (I:Inv X pins σ H s) (r:Vals vs us) (h:sp (vs++dvs) H Q E):wpAny (model X.prog X.w) X.A (call (.ref f) us) (EP X pins σ Q) X.xe s:=by
 have r2:Vals (vs++dvs) (us++ds):=r.append hd
 have hl:(us++ds).length=ps.length:=by rw[←r2.length];exact F.len _ _ _ _ h
 refine wpAny_call (codeAny_mono (F.run X.A X.stack s H ⟨us,[]⟩ (us++ds) (vs++dvs) Q E hr I.env0 (hb s us I.kIn hl) r2 h) fun r s' hq=>?_)
 cases r with
 |error e=>exact hx pins σ H s e s' I hq
 |ok fl=>
  cases fl with
  |ret u=>exact I.after hq
  |next=>exact False.elim hq
  |brk=>exact False.elim hq
  |cont=>exact False.elim hq
theorem Bi(F:FnOk X.prog X.w X.K X.mg X.base CX k f fd ps sp)(hr:Room k X.A)(hg:Gl X x)(hm:X.mg x=some (.ref f))(hk:keepIn X.K (.ref f)=true)(hb:Binds X.K fd ps ds)(hd:Vals dvs ds)(hx:uI CX X E)
  (ha:PA X (e::es) t) (hdb:(x == ("__debug__":Str))=false:=by decide) (he:starEach (e::es) X.env=(false,eval e X.env)::starEach es X.env:=by rfl) (hpl:(backTo pos (starEach es X.env)).any (·.1)=false:=by rfl):
  PE X (.Call (.Name x p) (e::es) [] pos) (yx sp dvs E t):=by
 intro pins s σ H Q I h
 refine wpAny_Call_Name_kw (ip I hg hm ?_ hdb)
 refine callWith_K (h₀:=X.base) I.ok.mod.kin hk (eG (ha pos pins s σ H _ I h) fun us s1 ⟨vs,H1,I1,r,q⟩=>⟨I1.kIn,?_⟩) he hpl
 exact DN F hr hb hd hx I1 r q
end
structure FnScope (N P:List Str) (sc:Scope):Prop where
 kind:sc.kind=.function
 co:sc.isCoroutine=false
 gen:sc.isGenerator=false
 nd:N.Nodup
 pre:N.take P.length=P
 par:∀x∈P,sc.names.lookup x=some .local∨sc.names.lookup x=some .cell
 nofree:∀y∈sc.names,y.2≠ .free
theorem pX{kindOf:Str→Option NameKind}{x:Str}:∀{binds:List (Str×Value)} {m:Str→Option Value},(∀v,(x,v)∉binds)→bindL kindOf binds m x=m x
 |[],_,_=>rfl
 |(n,v)::r,m,h=>by
  unfold bindL
  rw[pX fun w hw=>h w (il _ hw)]
  split
  ·have:x≠n:=by rintro rfl;exact h v io
   simp[this]
  ·rfl
theorem pY{kindOf:Str→Option NameKind}{x:Str}:∀{binds:List (Str×Value)} {m:Str→Option Value},(∀v,(x,v)∉binds)→bindC kindOf binds m x=m x
 |[],_,_=>rfl
 |(n,v)::r,m,h=>by
  unfold bindC
  rw[pY fun w hw=>h w (il _ hw)]
  split
  ·rfl
  ·have:x≠n:=by rintro rfl;exact h v io
   simp[this]
theorem pZ{kindOf:Str→Option NameKind}{x:Str}{v:Value}:∀{P:List Str} {vs:List Value} {i:Nat} {m:Str→Option Value},P.Nodup→P[i]? =some x→vs[i]? =some v→kindOf x=some .local→
  bindL kindOf (P.zip vs) m x=some v
 |[],_,_,_,_,h,_,_=>by simp at h
 |_::_,[],_,_,_,_,h,_=>by simp at h
 |p::P,w::vs,0,m,nd,h1,h2,hk=>by
  simp at h1 h2;subst h1;subst h2
  show bindL kindOf ((p,w)::P.zip vs) m p=_
  unfold bindL
  rw[pX fun v hv=>(List.nodup_cons.mp nd).1 (List.of_mem_zip hv).1,if_pos hk]
  simp
 |p::P,w::vs,i+1,m,nd,h1,h2,hk=>by
  show bindL kindOf ((p,w)::P.zip vs) m x=_
  unfold bindL
  exact pZ (i:=i) (List.nodup_cons.mp nd).2 (by simpa using h1) (by simpa using h2) hk
theorem p6{kindOf:Str→Option NameKind}{x:Str}{v:Value}:∀{P:List Str} {vs:List Value} {i:Nat} {m:Str→Option Value},P.Nodup→P[i]? =some x→vs[i]? =some v→kindOf x≠some .local→
  bindC kindOf (P.zip vs) m x=some v
 |[],_,_,_,_,h,_,_=>by simp at h
 |_::_,[],_,_,_,_,h,_=>by simp at h
 |p::P,w::vs,0,m,nd,h1,h2,hk=>by
  simp at h1 h2;subst h1;subst h2
  show bindC kindOf ((p,w)::P.zip vs) m p=_
  unfold bindC
  rw[pY fun v hv=>(List.nodup_cons.mp nd).1 (List.of_mem_zip hv).1,if_neg hk]
  simp
 |p::P,w::vs,i+1,m,nd,h1,h2,hk=>by
  show bindC kindOf ((p,w)::P.zip vs) m x=_
  unfold bindC
  exact p6 (i:=i) (List.nodup_cons.mp nd).2 (by simpa using h1) (by simpa using h2) hk
def eO(N:List Str)(vs:List V):St:=vs.map some++List.replicate (N.length - vs.length) none
def gY(CX:wX)(P:Program)(w:World)(K:Frag)(mg:Str→Option Value)(base:Heap)(N:List Str)(qual:Str)(scope:Scope)(f:Addr)(cd:Value)(A:Around)(outer:List Env)(s:Shared)(H:Hp)(E:XK):Cx where
 prog:=P
 w:=w
 K:=K
 mg:=mg
 base:=base
 A:=A.deeper (envOfC qual scope s.heap.objs.size f cd)
 N:=N
 s₀:=s
 H₀:=H
 env:=envOfC qual scope s.heap.objs.size f cd
 outer:=outer
 stack:=envOfC qual scope s.heap.objs.size f cd::outer
 ex:=[]
 calm:=true
 fn:=fun _=>true
 pn:=[]
 xe:=fun e s'=>wpAny (model P w) (A.deeper (envOfC qual scope s.heap.objs.size f cd)) (leaving (envOfC qual scope s.heap.objs.size f cd) e) (fun _ s''=>CX outer H s E e s'') (fun e' s''=>CX outer H s E e' s'') s'
theorem sD{sc:Scope}{n:Nat}{x:Str}(h:sc.names.lookup x=some .cell):∃c,(cellsFrom n sc.names []).lookup x=some c:=by
 have q:=cellsFrom_some sc.names n [] (.inl h)
 exact Option.isSome_iff_exists.mp q
theorem me{CX:wX}{P:Program}{w:World}{K:Frag}{mg:Str→Option Value}{base:Heap}{N ps:List Str}{qual:Str}{scope:Scope}{f:Addr}{cd:Value}{A:Around}{outer:List Env}{s s1:Shared}{H:Hp}{E:XK}{us:List Value}{vs:List V}
  (S:FnScope N ps scope) (hd:A.handled=none) (e0:Env0 P w K mg base A outer s H) (hl:vs.length=ps.length) (r:Vals vs us)
  (x:InCallC s s.heap.objs.size (bindL (envOfC qual scope s.heap.objs.size f cd).kindOf (ps.zip us) fun _=>none) (cellsFrom (s.heap.objs.size+1) scope.names []) (bindC (envOfC qual scope s.heap.objs.size f cd).kindOf (ps.zip us) fun _=>none) s1):
  Inv (gY CX P w K mg base N qual scope f cd A outer s H E) [] (eO N vs) H s1:=by
 have hpl:ps.length≤N.length:=by have:=congrArg List.length S.pre;rw[List.length_take]at this;omega
 obtain⟨h1,tk,rfl,hk⟩:=x.done
 have noA:∀b:Addr,b∉(gY CX P w K mg base N qual scope f cd A outer s H E).ex:=fun b z=>absurd (show b∈([]:List Addr)from z) (by simp)
 refine⟨⟨e0.mod,S.kind,rfl,rfl,fQ _,fun y z c h1 h2=>?_,fun y hy=>?_,fun y c _ h=>?_,fun _=>hd,Around.frames_deeper e0.frames,.inr ⟨rfl,rfl⟩,fun b z=>absurd z (noA b),e0.bs,e0.bsz,fun b _ _=>noA b,fun b z=>absurd z (noA b),e0.funs,e0.frf,e0.tab⟩,
  rfl,e0.bare,Un.kept hk,⟨_,x.toInCall.ns,fun i y v h1 h2 h3=>?_⟩,fun y c h=>⟨_,x.cell y c h⟩,e0.hok.fresh (fQ _),fun y c h=>?_,fun p hp=>absurd (show p∈([]:List (Addr×Obj))from hp) (by simp),e0.hok.kept hk,?_⟩
 ·exact name_of_addr x.apart (PySem.mem_of_lookup h1) (PySem.mem_of_lookup h2)
 ·have hy:scope.names.lookup y=some .cell∨scope.names.lookup y=some .free:=hy
  rcases hy with hy |hy
  ·exact sD hy
  ·exact absurd rfl (S.nofree _ (PySem.mem_of_lookup hy))
 ·exact kE (x.above y c (PySem.mem_of_lookup h))
 ·have hi:i < vs.length:=by
   unfold eO at h2
   by_cases hi:i < vs.length
   ·exact hi
   ·rw[AK (by simpa using hi)]at h2
    rw[List.getElem?_replicate]at h2
    split at h2 <;> cases h2
  have ha:vs[i]? =some v:=by
   unfold eO at h2
   rw[List.getElem?_append_left (by simpa using hi),List.getElem?_map]at h2
   cases e:vs[i]? with
   |none=>rw[e]at h2;cases h2
   |some a=>rw[e]at h2;cases h2;rfl
  obtain⟨u,hu,rv⟩:=r.get ha
  have hp:ps[i]? =some y:=by
   rw[←S.pre,List.getElem?_take_of_lt (by omega)];exact h1
  have ndP:ps.Nodup:=by rw[←S.pre];exact S.nd.sublist (List.take_sublist _ _)
  refine⟨u,rv,?_⟩
  rcases S.par y (List.mem_of_getElem? hp)with k |k
  ·exact .inl ⟨k,pZ ndP hp hu k⟩
  ·obtain⟨c,e⟩:=sD (n:=s.heap.objs.size+1) k
   refine .inr ⟨.inl k,c,e,?_⟩
   have q:=x.cell y c e
   rw[p6 ndP hp hu (by show scope.names.lookup y≠_;rw[k];decide)]at q
   exact q
 ·exact e0.hok.fresh (kE (x.above y c (PySem.mem_of_lookup h)))
 ·unfold eO
  show _=N.length
  rw[vH,fH,List.length_replicate]
  omega
theorem yy{CX:wX}{P:Program}{w:World}{K:Frag}{mg:Str→Option Value}{base:Heap}{k:Nat}{f:Addr}{name qual:Str}{params:Arguments}{body:List Stmt}{scope:Scope}{dV kV doc pm cdv ct oc:Value}{an od:Option Addr}
  {osl:Array (Option Value)} {N ps:List Str} {sp:Sp} (lk:K.lookup f=some ⟨oc,od,.func (fnOf name qual params body scope dV kV doc pm an cdv ct),osl⟩) (hcd:codeIn K cdv qual=true) (S:FnScope N ps scope)
  (len:∀vs H Q E,sp vs H Q E→vs.length=ps.length)
  (hbody:∀(A:Around) (outer:List Env) (s:Shared) (H:Hp) (vs:List V) (Q:VK) (E:XK),Room k (A.deeper (envOfC qual scope s.heap.objs.size f cdv))→sp vs H Q E→
   ∃t,PSs (gY CX P w K mg base N qual scope f cdv A outer s H E) body t∧t {nx:=fun _ H'=>Q .non H',rt:=Q} (eO N vs) H):
  FnOk P w K mg base CX (k+1) f (fnOf name qual params body scope dV kV doc pm an cdv ct) ps sp:=by
 refine⟨len,fun A outer s H args us vs Q E hr e0 hb r hsp=>?_⟩
 have hl:=len _ _ _ _ hsp
 have KX:K.In s.heap:=e0.mod.kin.keeps fun b o e=>(e0.bs b o e).1
 have lim:s.heap.NoLimit:=e0.mod.nolimit.keeps fun b o e=>(e0.bs b o e).1
 have hkind:∀y∈ps.zip us,scope.names.lookup y.1=some .local∨(scope.names.lookup y.1=some .cell∧((cellsFrom (s.heap.objs.size+1) scope.names []).lookup y.1).isSome=true):=fun⟨n,v⟩ hy=>by
  rcases S.par n (List.of_mem_zip hy).1 with q |q
  ·exact .inl q
  ·exact .inr ⟨q,cellsFrom_some _ _ _ (.inl q)⟩
 refine codeAny_call_function hr.depth (KX _ _ lk) rfl S.co S.gen rfl (codeRec_of KX hcd) (hb _ _ _ _ ?_)
 refine wpAny_newFunctionEnv_cells S.kind hkind fun env he s1 x=>?_
 subst he
 refine⟨lim.keeps x.toInCall.keep,codeAny_func ?_⟩
 obtain⟨t,ht,hq⟩:=hbody A outer s H vs Q E (hr.deeper _) hsp
 have I:Inv (gY CX P w K mg base N qual scope f cdv A outer s H E) [] (eO N vs) H s1:=me S hr.hd e0 hl r x
 refine wpAny_mono (ht [] s1 (eO N vs) H _ I hq) (fun fl s' hs=>?_) fun e s' hs=>hs
 have fin:∀{σ':St} {H':Hp} {v:V} {u:Value},Inv (gY CX P w K mg base N qual scope f cdv A outer s H E) [] σ' H' s'→RelV v u→Q v H'→CE outer P w H s Q u s':=
  fun {σ' H' v u} J rv q=>⟨v,H',J.os,J.bare,J.base,J.hok,rv,q⟩
 cases fl with
 |ret u=>
  obtain⟨v,σ',H',J,rv,q⟩:=hs
  exact fin J rv q
 |next=>
  obtain⟨σ',H',J,q⟩:=hs
  exact fin (v:=V.non) (u:=Value.none) J rfl q
 |brk=>
  obtain⟨_,_,_,q⟩:=hs
  exact False.elim q
 |cont=>
  obtain⟨_,_,_,q⟩:=hs
  exact False.elim q
end L2
namespace L2
open PySem PySem.Spec PyProof.Rows
section
variable {X:Cx} {x:Str} {p pos:Pos} {e:Expr} {es:List Expr} {t:TA} {id T:String} {r:List V→Hp→VK→Prop}
def GK(r:List V→Hp→VK→Prop)(t:TA):TE:=fun σ H Q=>t σ H fun vs H1=>r vs H1 Q
theorem jm (hc:CallR X (.builtin id) r) (hg:Gl X x) (hm:X.mg x=none) (hv:bootBuiltins x=some (.builtin id)) (ha:PA X (e::es) t) (hn:x≠"__name__":=by decide) (hdb:(x == ("__debug__":Str))=false:=by decide)
  (he:starEach (e::es) X.env=(false,eval e X.env)::starEach es X.env:=by rfl) (hpl:(backTo pos (starEach es X.env)).any (·.1)=false:=by rfl):PE X (.Call (.Name x p) (e::es) [] pos) (GK r t):=by
 intro pins s σ H Q I h
 refine wpAny_Call_Name_kw (nV I hg hm hv ?_ hn hdb)
 exact PyProof.Rows.callWith_builtin1 (eG (ha pos pins s σ H _ I h) fun us s1 ⟨vs,H1,I1,r1,q1⟩=>hc pins s1 σ H1 vs us Q I1 r1 q1) he hpl
theorem p7 (hc:CallR X (.type T) r) (hg:Gl X x) (hm:X.mg x=none) (hv:bootBuiltins x=some (.type T)) (ha:PA X (e::es) t) (hn:x≠"__name__":=by decide) (hdb:(x == ("__debug__":Str))=false:=by decide)
  (he:starEach (e::es) X.env=(false,eval e X.env)::starEach es X.env:=by rfl) (hpl:(backTo pos (starEach es X.env)).any (·.1)=false:=by rfl):PE X (.Call (.Name x p) (e::es) [] pos) (GK r t):=by
 intro pins s σ H Q I h
 refine wpAny_Call_Name_kw (nV I hg hm hv ?_ hn hdb)
 exact PyProof.Rows.callWith_type1 (eG (ha pos pins s σ H _ I h) fun us s1 ⟨vs,H1,I1,r1,q1⟩=>hc pins s1 σ H1 vs us Q I1 r1 q1) he hpl
end
end L2
namespace HT
open PySem PyProof.Rows
section
open PySem.SeqAt
open PySem.AutoSeq1 (wpAny_loadPart')
open PySem.MeetsSeq PySem.MeetsSeq2 PySem.MeetsSeq3
end
section
variable {prog:Program} {w:World} {A:Around} {E:Value→Shared→Prop} {s:Shared}
def pG(n d:Nat):Option Int→Nat
 |none=>d
 |some v=>if v < 0 then (v+(n:Int)).toNat else min v.toNat n
end
end HT
namespace L2
open PySem PySem.Spec PyProof.Rows
abbrev TO:=St→Hp→(Option Int→Hp→Prop)→Prop
def PO(X:Cx)(e:Option Expr)(t:TO):Prop:=
 ∀(pins:List (Addr×Obj)) (s:Shared) (σ:St) (H:Hp) (Q:Option Int→Hp→Prop),Inv X pins σ H s→t σ H Q→
  wpAny (model X.prog X.w) X.A (evalPart e X.env) (fun u s'=>∃o H',Inv X pins σ H' s'∧IsPart u o∧Q o H') X.xe s
def Bj:TO:=fun _ H Q=>Q none H
def Fq(t:TE):TO:=fun σ H Q=>t σ H fun x H1=>∃i,x=.int i∧Q (some i) H1
section
variable {X:Cx} {e:Expr} {te:TE} {lo hi:Option Expr} {tl th:TO} {pos p2:Pos}
theorem Bk:PO X none Bj:=by
 intro pins s σ H Q I h
 rw[evalPart_none]
 exact wpAny_pure ⟨none,H,I,.none,h⟩
theorem Bl(h:PE X e te):PO X (some e) (Fq te):=by
 intro pins s σ H Q I hw
 rw[evalPart_some]
 refine eG (h pins s σ H _ I hw) fun u s1 ⟨x,H1,I1,r1,q1⟩=>?_
 obtain⟨i,rfl,q⟩:=q1
 obtain⟨t,rfl⟩:=r1
 exact⟨some i,H1,I1,.int i t,q⟩
def SlR(X:Cx)(r:V→Option Int→Option Int→Hp→VK→Prop):Prop:=
 ∀(pins:List (Addr×Obj)) (s:Shared) (σ:St) (H:Hp) (x:V) (v vl vu:Value) (lo hi:Option Int) (sl:Addr) (Q:VK),Inv X pins σ H s→RelV x v→s.heap.IsSliceOf sl vl vu .none→IsPart vl lo→IsPart vu hi→r x lo hi H Q→
  ∃T id,typeLookup (.type T) "__getitem__"=pure (some (.builtin id))∧s.TypeIs v T∧wpAny (model X.prog X.w) X.A (getItem v (.ref sl)) (EP X pins σ Q) X.xe s
theorem SlR.or{r r':V→Option Int→Option Int→Hp→VK→Prop}(h:SlR X r)(h':SlR X r'):SlR X (fun x lo hi H Q=>r x lo hi H Q∨r' x lo hi H Q):=by
 intro pins s σ H x v vl vu lo hi sl Q I rx hs pl pu q
 rcases q with q |q
 ·exact h pins s σ H x v vl vu lo hi sl Q I rx hs pl pu q
 ·exact h' pins s σ H x v vl vu lo hi sl Q I rx hs pl pu q
def Ht(r:V→Option Int→Option Int→Hp→VK→Prop)(te:TE)(tl th:TO):TE:=fun σ H Q=>te σ H fun x H1=>tl σ H1 fun l H2=>th σ H2 fun u H3=>r x l u H3 Q
theorem yz{r:V→Option Int→Option Int→Hp→VK→Prop}(hr:SlR X r)(he:PE X e te)(hl:PO X lo tl)(hu:PO X hi th):PE X (.Subscript e (.Slice lo hi none p2) pos) (Ht r te tl th):=by
 intro pins s σ H Q I h
 refine Subscript_ (eG (he pins s σ H _ I h) fun v s1 ⟨x,H1,I1,r1,q1⟩=>?_)
 refine wpAny_Slice (eG (hl pins s1 σ H1 _ I1 q1) fun vl s2 ⟨l,H2,I2,pl,q2⟩=>eG (hu pins s2 σ H2 _ I2 q2) fun vu s3 ⟨u,H3,I3,pu,q3⟩=>?_)
 rw[evalPart_none]
 refine wpAny_pure ?_
 have I4:Inv X pins σ H3 {s3 with heap:=s3.heap.push {cls:=.type "slice",data:=.fields #[vl,vu,.none]}}:=I3.kept (t':=s3.toks) fun b ob q=>gw _ q
 obtain⟨T,id,hT,ht,hg⟩:=hr pins {s3 with heap:=s3.heap.push {cls:=.type "slice",data:=.fields #[vl,vu,.none]}} σ H3 x v vl vu l u s3.heap.objs.size Q I4 r1 (Heap.IsSliceOf.new ..) pl pu q3
 show wpAny (model X.prog X.w) X.A (subscriptTail e (.Slice lo hi none p2) v (.ref s3.heap.objs.size)) (EP X pins σ Q) X.xe {s3 with heap:=s3.heap.push {cls:=.type "slice",data:=.fields #[vl,vu,.none]}}
 exact tail_any (ops:=[.ref s3.heap.objs.size,v]) ht hT hg (by with_unfolding_all rfl)
def wY(xs:List V)(lo hi:Option Int):List V:=(xs.drop (HT.pG xs.length 0 lo)).take (HT.pG xs.length xs.length hi - HT.pG xs.length 0 lo)
theorem sE(xs:List V)(lo hi:Option Int):(wY xs lo hi).length≤xs.length:=by
 unfold wY
 rw[List.length_take,List.length_drop]
 omega
end
end L2
namespace L2
open PySem PySem.Spec PyProof.Rows
def EU(n:Nat)(i:Int):Option Nat:=if 0≤i then (if i < n then some i.toNat else none)else if -(n:Int)≤i then some (i+n).toNat else none
def atI{α:Type}(xs:List α)(i:Int):Option α:=(EU xs.length i).bind fun j=>xs[j]?
theorem Bm{n:Nat}{i:Int}{j:Nat}(h:EU n i=some j):seqIndex? i n=some j∧j < n∧ -(n:Int)≤i∧i < n:=by
 unfold EU at h
 by_cases h0:0≤i
 ·rw[if_pos h0]at h
  by_cases h1:i < n
  ·rw[if_pos h1]at h
   have e:i.toNat=j:=Option.some.inj h
   exact⟨by rw[seqIndex_of h0 h1,e],by omega,by omega,h1⟩
  ·rw[if_neg h1]at h;cases h
 ·rw[if_neg h0]at h
  by_cases h1: -(n:Int)≤i
  ·rw[if_pos h1]at h
   have e:(i+n).toNat=j:=Option.some.inj h
   exact⟨by rw[seqIndex_neg (by omega) h1,e],by omega,h1,by omega⟩
  ·rw[if_neg h1]at h;cases h
theorem qM{α:Type}{xs:List α}{i:Int}{v:α}(h:atI xs i=some v):∃j,seqIndex? i xs.length=some j∧xs[j]? =some v∧j < xs.length∧ -(xs.length:Int)≤i∧i < xs.length:=by
 unfold atI at h
 cases e:EU xs.length i with
 |none=>rw[e]at h;cases h
 |some j=>
  rw[e]at h
  obtain⟨h1,h2,h3,h4⟩:=Bm e
  exact⟨j,h1,h,h2,h3,h4⟩
def vO(b:Expr):Prop:=∀o i,subscripted b false o i=operate [o,i] (getItem o i)
def IxR(X:Cx)(r:R2):Prop:=
 ∀(value slice:Expr) (pins:List (Addr×Obj)) (s:Shared) (σ:St) (H:Hp) (x y:V) (v u:Value) (Q:VK),Inv X pins σ H s→RelV x v→RelV y u→r x y H Q→
  subscripted slice false v u=operate [v,u] (getItem v u)→wpAny (model X.prog X.w) X.A (subscriptTail value slice v u) (EP X pins σ Q) X.xe s
def GL(X:Cx)(id:String)(r:V→List V→Hp→VK→Prop):Prop:=
 ∀(pins:List (Addr×Obj)) (s:Shared) (σ:St) (H:Hp) (x:V) (xs:List V) (v:Value) (us:List Value) (Q:VK),Inv X pins σ H s→RelV x v→Vals xs us→r x xs H Q→
  wpAny (model X.prog X.w) X.A (call (.builtin id) (v::us)) (EP X pins σ Q) X.xe s
section
variable {X:Cx} {a b:Expr} {ta tb:TE} {pos:Pos}
theorem IxR.or{r r':R2}(h:IxR X r)(h':IxR X r'):IxR X (fun x y H Q=>r x y H Q∨r' x y H Q):=by
 intro value slice pins s σ H x y v u Q I rx ry q hs
 rcases q with q |q
 ·exact h value slice pins s σ H x y v u Q I rx ry q hs
 ·exact h' value slice pins s σ H x y v u Q I rx ry q hs
theorem Fr{r:R2}(hr:IxR X r)(ha:PE X a ta)(hb:PE X b tb)(hs:vO b):PE X (.Subscript a b pos) (Ff r ta tb):=by
 intro pins s σ H Q I h
 exact Subscript_ (DC ha hb I h fun v u s2 x y H2 I2 rx ry q=>hr a b pins s2 σ H2 x y v u Q I2 rx ry q (hs _ _))
def Fs(K:Frag):R2:=fun x y H Q=>∃p xs i v,x=.ref p∧y=.int i∧SqL K H p xs∧atI xs i=some v∧Q v H
def Ft(K:Frag):R2:=fun x y H Q=>∃p xs i v,x=.ref p∧y=.int i∧SqT K H p xs∧atI xs i=some v∧Q v H
def Fu:R2:=fun x y H Q=>∃z i c,x=.str z∧y=.int i∧z.length≤sizeLine∧atI z.cps.toList i=some c∧Q (.str ⟨#[c]⟩) H
theorem ix_list:IxR X (Fs X.K):=by
 intro value slice pins s σ H x y v u Q I rx ry h hs
 obtain⟨p,xs,i,z,rfl,rfl,hq,he,q⟩:=h
 cases rx
 obtain⟨t,rfl⟩:=ry
 obtain⟨its,r,pl,hz⟩:=I.list hq
 obtain⟨j,h1,h2,h3,h4,h5⟩:=qM he
 obtain⟨w,ew,rw'⟩:=r.get h2
 have hl:=r.length
 have hn:=md
 have fin:EP X pins σ Q w s:=⟨z,H,I,rw',q⟩
 by_cases h0:0≤i
 ·have hj:i.toNat=j:=by
   rw[seqIndex_of h0 h5]at h1
   exact Option.some.inj h1
  exact item_listR pl.isList h0 (by omega) (by rw[hj];simpa using ew) fin hs
 ·have hj:(i+(its.toArray.size:Int)).toNat=j:=by
   rw[seqIndex_neg (by omega) h4]at h1
   rw[l_,←hl]
   exact Option.some.inj h1
  exact subscriptTail_builtinR (x:=w) pl.isList.typeIs slot_list_getitem.lookup
   (wpAny_getItem_list_neg (Q:=fun r s'=>r=w∧EP X pins σ Q r s') pl.isList (by omega) (by rw[l_] <;> omega) (by omega) (by rw[hj];simpa using ew) ⟨rfl,fin⟩) hs
theorem ix_tup:IxR X (Ft X.K):=by
 intro value slice pins s σ H x y v u Q I rx ry h hs
 obtain⟨p,xs,i,z,rfl,rfl,hq,he,q⟩:=h
 cases rx
 obtain⟨t,rfl⟩:=ry
 obtain⟨its,r,pl,hz⟩:=I.tuple hq
 obtain⟨j,h1,h2,h3,h4,h5⟩:=qM he
 obtain⟨w,ew,rw'⟩:=r.get h2
 have hl:=r.length
 have hn:=md
 have fin:EP X pins σ Q w s:=⟨z,H,I,rw',q⟩
 exact subscriptTail_builtinR (x:=w) pl.typeIs slot_tuple_getitem.lookup
  (getItem_tuple (j:=j) (Q:=fun r s'=>r=w∧EP X pins σ Q r s') pl (by omega) (by omega) (by rw[l_,←hl];exact h1) (by simpa using ew) ⟨rfl,fin⟩) hs
theorem DO:IxR X Fu:=by
 intro value slice pins s σ H x y v u Q I rx ry h hs
 obtain⟨z,i,c,rfl,rfl,hz,he,q⟩:=h
 obtain⟨t,rfl⟩:=rx
 obtain⟨t',rfl⟩:=ry
 obtain⟨j,h1,h2,h3,h4,h5⟩:=qM he
 have hl:z.cps.toList.length=z.length:=by simp[Str.length]
 rw[hl]at h1 h4 h5
 have hn:=md
 exact tail_any (typeIs_str s z t) slot_str_getitem.lookup (getItem_str (c:=c) (by
  have e1:decide (i < -(2 ^ 63:Int))=false:=decide_eq_false (by omega)
  have e2:decide (i≥2 ^ 63)=false:=decide_eq_false (by omega)
  rw[e1,e2,Bool.or_false]) (by rw[h1];simpa using h2) ⟨.str ⟨#[c]⟩,H,I.tok _,⟨_,rfl⟩,q⟩) hs
def Hl(K:Frag):R2:=fun x y H Q=>Fs K x y H Q∨Ft K x y H Q∨Fu x y H Q
theorem DP:IxR X (Hl X.K):=ix_list.or (ix_tup.or DO)
theorem Inv.lst{pins:List (Addr×Obj)}{σ:St}{H:Hp}{s:Shared}{p:Addr}{xs:List V}(I:Inv X pins σ H s)(h:H p=some (.lst xs)):
  ∃(its:List Value) (n:Nat),Vals xs its∧s.heap.get? p=some {cls:=.type "list",data:=.seq its.toArray n}∧xs.length≤sizeLine:=by
 obtain⟨z,its,n,r,e⟩:=I.hok p _ h
 exact⟨its,n,r,e,z⟩
theorem qN(lo hi:Option Int)(n:Nat):(sliceBounds lo hi none n).1=((HT.pG n 0 lo:Nat):Int)∧(sliceBounds lo hi none n).2.1=((HT.pG n n hi:Nat):Int)∧(sliceBounds lo hi none n).2.2=1:=by
 refine⟨?_,?_,rfl⟩
 ·cases lo with
  |none=>simp[sliceBounds,HT.pG]
  |some i=>
   simp only[sliceBounds,HT.pG,Option.getD_none,show(1:Int) > 0 by decide,if_true]
   by_cases h:i < 0
   ·simp only[h,if_true] <;> omega
   ·simp only[h,if_false] <;> omega
 ·cases hi with
  |none=>simp[sliceBounds,HT.pG]
  |some i=>
   simp only[sliceBounds,HT.pG,Option.getD_none,show(1:Int) > 0 by decide,if_true]
   by_cases h:i < 0
   ·simp only[h,if_true] <;> omega
   ·simp only[h,if_false] <;> omega
theorem pH(its:List Value)(lo hi:Option Int):slicePick its.toArray lo hi none=((its.drop (HT.pG its.length 0 lo)).take (HT.pG its.length its.length hi - HT.pG its.length 0 lo)).toArray:=by
 obtain⟨h1,h2,h3⟩:=qN lo hi its.toArray.size
 unfold slicePick
 rw[h1,h2,h3]
 simp only[sliceRange_one,pick_run,l_] <;> rfl
def GM(K:Frag):V→Option Int→Option Int→Hp→VK→Prop:=fun x lo hi H Q=>∃a xs,x=.ref a∧SqL K H a xs∧∀p,H p=none→Q (.ref p) (upd H p (.lst (wY xs lo hi)))
theorem Bo:SlR X (GM X.K):=by
 intro pins s σ H x v vl vu lo hi sl Q I rx hs pl pu h
 obtain⟨a,xs,rfl,hx,q⟩:=h
 cases rx
 obtain⟨its,r,ht,hz⟩:=I.list hx
 have hlen:=r.length
 refine⟨"list",_,slot_list_getitem.lookup,ht.isList.typeIs,?_⟩
 refine wpAny_getItem_list_slice ht.isList hs pl pu .none (by simp) ?_ (by rw[l_] <;> omega)
 rw[pH,←hlen]
 refine⟨.ref s.heap.objs.size,_,I.laid (t':=s.toks) (o:=.lst (wY xs lo hi)) (fun b ob q=>gw _ q) (fQ _) ?_,rfl,q _ (I.hok.fresh (fQ _))⟩
 exact⟨kb (sE xs lo hi) hz,_,0,(r.drop (HT.pG xs.length 0 lo)).take (HT.pG xs.length xs.length hi - HT.pG xs.length 0 lo),lh _ rfl⟩
def iE:V→Bool
 |.non=>true
 |.bl _=>true
 |.int _=>true
 |.str _=>true
 |_=>false
def yA:V→V→Bool
 |.non,.non=>true
 |.bl a,.bl b=>a == b
 |.bl a,.int b=>(if a then 1 else 0) == b
 |.int a,.bl b=>a == (if b then 1 else 0)
 |.int a,.int b=>a == b
 |.str a,.str b=>a == b
 |_,_=>false
theorem DQ{A:Around}{s:Shared}{y x:V}{u v:Value}(ry:RelV y u)(rx:RelV x v)(fy:iE y=true)(fx:iE x=true):SeqAt.EqAt A s u v (yA y x):=by
 cases y with
 |non=>
  cases ry
  cases x with
  |non=>cases rx;exact SeqAt.EqAt.same _
  |bl b=>cases rx;exact SeqAt.EqAt.none_bool b
  |int b=>obtain⟨t,rfl⟩:=rx;exact SeqAt.EqAt.none_int b t
  |str b=>obtain⟨t,rfl⟩:=rx;exact SeqAt.EqAt.none_str b t
  |_=>exact absurd (show false=true from fx) qI
 |bl a=>
  cases ry
  cases x with
  |non=>cases rx;exact SeqAt.EqAt.bool_none a
  |bl b=>cases rx;exact SeqAt.EqAt.bool_bool a b
  |int b=>obtain⟨t,rfl⟩:=rx;exact SeqAt.EqAt.bool_int a b t
  |str b=>obtain⟨t,rfl⟩:=rx;exact SeqAt.EqAt.bool_str a b t
  |_=>exact absurd (show false=true from fx) qI
 |int a=>
  obtain⟨t',rfl⟩:=ry
  cases x with
  |non=>cases rx;exact SeqAt.EqAt.int_none a t'
  |bl b=>cases rx;exact SeqAt.EqAt.int_bool a t' b
  |int b=>obtain⟨t,rfl⟩:=rx;exact SeqAt.EqAt.int_int a t' b t
  |str b=>obtain⟨t,rfl⟩:=rx;exact SeqAt.EqAt.int_str a t' b t
  |_=>exact absurd (show false=true from fx) qI
 |str a=>
  obtain⟨t',rfl⟩:=ry
  cases x with
  |non=>cases rx;exact SeqAt.EqAt.str_none a t'
  |bl b=>cases rx;exact SeqAt.EqAt.str_bool a t' b
  |int b=>obtain⟨t,rfl⟩:=rx;exact SeqAt.EqAt.str_int a t' b t
  |str b=>obtain⟨t,rfl⟩:=rx;exact SeqAt.EqAt.str_str a t' b t
  |_=>exact absurd (show false=true from fx) qI
 |_=>exact absurd (show false=true from fy) qI
def uJ(x:V)(u:Value):Bool:=match u with
 |.none=>yA .non x
 |.bool b=>yA (.bl b) x
 |.int i _=>yA (.int i) x
 |.str z _=>yA (.str z) x
 |_=>false
theorem yB{x y:V}{u:Value}(r:RelV y u)(f:iE y=true):uJ x u=yA y x:=by
 cases y with
 |non=>cases r;rfl
 |bl b=>cases r;rfl
 |int i=>obtain⟨t,rfl⟩:=r;rfl
 |str z=>obtain⟨t,rfl⟩:=r;rfl
 |_=>exact absurd (show false=true from f) qI
theorem lj{x:V}:∀{xs:List V} {us:List Value},Vals xs us→xs.all iE=true→us.any (uJ x)=xs.any fun y=>yA y x
 |_,_,.nil,_=>rfl
 |y::xs,u::us,.cons r t,f=>by
  rw[List.all_cons,sy]at f
  rw[List.any_cons,List.any_cons,yB r f.1,lj t f.2]
theorem jn{A:Around}{s:Shared}{x:V}{v:Value}(rx:RelV x v)(fx:iE x=true):∀{xs:List V} {us:List Value},Vals xs us→xs.all iE=true→∀u∈us,SeqAt.EqAt A s u v (uJ x u)
 |_,_,.nil,_=>fun u hu=>by cases hu
 |y::xs,u::us,.cons r t,f=>fun u' hu=>by
  rw[List.all_cons,sy]at f
  rcases Zal.mp hu with rfl |hu
  ·rw[yB r f.1];exact DQ r rx f.1 fx
  ·exact jn rx fx t f.2 u' hu
def CS(x:V)(xs:List V):Bool:=xs.any fun y=>yA y x
def Gi(K:Frag)(neg:Bool):R2:=fun x y H Q=>∃p xs,y=.ref p∧(SqL K H p xs∨SqT K H p xs)∧iE x=true∧xs.all iE=true∧Q (.bl (if neg then !CS x xs else CS x xs)) H
theorem p8:OpR X (compareOp .In) (Gi X.K false):=by
 intro pins s σ H x y v u Q I rx ry h
 obtain⟨p,xs,rfl,hq,fx,fs,q⟩:=h
 cases ry
 rcases hq with hq |hq
 ·obtain⟨its,r,pl,hz⟩:=I.list hq
  refine SeqAt.in_listAt (uJ x) pl.isList (fun w hw=>jn rx fx r fs w (by simpa using hw)) ⟨.bl _,H,I,rfl,?_⟩
  rw[show its.toArray.any (uJ x)=its.any (uJ x) by simp,lj r fs]
  exact q
 ·obtain⟨its,r,pl,hz⟩:=I.tuple hq
  refine SeqAt.in_tupleAt (uJ x) pl (fun w hw=>jn rx fx r fs w (by simpa using hw)) ⟨.bl _,H,I,rfl,?_⟩
  rw[show its.toArray.any (uJ x)=its.any (uJ x) by simp,lj r fs]
  exact q
theorem qO:OpR X (compareOp .NotIn) (Gi X.K true):=by
 intro pins s σ H x y v u Q I rx ry h
 obtain⟨p,xs,rfl,hq,fx,fs,q⟩:=h
 cases ry
 rcases hq with hq |hq
 ·obtain⟨its,r,pl,hz⟩:=I.list hq
  refine SeqAt.notIn_listAt (uJ x) pl.isList (fun w hw=>jn rx fx r fs w (by simpa using hw)) ⟨.bl _,H,I,rfl,?_⟩
  rw[show its.toArray.any (uJ x)=its.any (uJ x) by simp,lj r fs]
  exact q
 ·obtain⟨its,r,pl,hz⟩:=I.tuple hq
  refine SeqAt.notIn_tupleAt (uJ x) pl (fun w hw=>jn rx fx r fs w (by simpa using hw)) ⟨.bl _,H,I,rfl,?_⟩
  rw[show its.toArray.any (uJ x)=its.any (uJ x) by simp,lj r fs]
  exact q
theorem qP:OpR X (compareOp .NotIn) (fun x y H Q=>∃i j,x=.str i∧y=.str j∧Q (.bl (!(!(Builtin.Str.occurrences j i 0 j.length 1).isEmpty))) H):=by
 intro pins s σ H x y v u Q I rx ry h
 obtain⟨i,j,rfl,rfl,q⟩:=h
 obtain⟨t,rfl⟩:=rx
 obtain⟨t',rfl⟩:=ry
 exact notIn_str ⟨.bl _,H,I,rfl,q⟩
theorem qQ:CallR X (.builtin "len") (fun xs H Q=>∃p ys,xs=[.ref p]∧(SqL X.K H p ys∨SqT X.K H p ys)∧Q (.int ys.length) H):=by
 intro pins s σ H xs us Q I r h
 obtain⟨p,ys,rfl,hq,q⟩:=h
 obtain⟨u,rfl,rx⟩:=yu r
 cases rx
 have hn:=md
 rcases hq with hq |hq
 ·obtain⟨its,r',pl,hz⟩:=I.list hq
  have hlen:=r'.length
  exact Calls.call_len_list pl.isList (by simp only[l_] <;> omega) ⟨.int ys.length,H,I.tok _,⟨s.toks+1,by rw[l_,hlen]⟩,q⟩
 ·obtain⟨its,r',pl,hz⟩:=I.tuple hq
  have hlen:=r'.length
  exact len_tuple pl (by simp only[l_] <;> omega) ⟨.int ys.length,H,I.tok _,⟨s.toks+1,by rw[l_,hlen]⟩,q⟩
theorem qR:CallR X (.builtin "len") (fun xs H Q=>∃z,xs=[.str z]∧z.length≤sizeLine∧Q (.int z.length) H):=by
 intro pins s σ H xs us Q I r h
 obtain⟨z,rfl,hz,q⟩:=h
 obtain⟨u,rfl,t,rfl⟩:=yu r
 have hn:=md
 exact len_str (by omega) ⟨.int z.length,H,I.tok _,⟨_,rfl⟩,q⟩
theorem CallR.or{f:Value}{r r':List V→Hp→VK→Prop}(h:CallR X f r)(h':CallR X f r'):CallR X f (fun xs H Q=>r xs H Q∨r' xs H Q):=by
 intro pins s σ H xs us Q I rs q
 rcases q with q |q
 ·exact h pins s σ H xs us Q I rs q
 ·exact h' pins s σ H xs us Q I rs q
theorem qS:CallR X (.type "list") (fun xs H Q=>∃p ys,xs=[.ref p]∧(SqL X.K H p ys∨SqT X.K H p ys)∧∀l,H l=none→Q (.ref l) (upd H l (.lst ys))):=by
 intro pins s σ H xs us Q I r h
 obtain⟨p,ys,rfl,hq,q⟩:=h
 obtain⟨u,rfl,rx⟩:=yu r
 cases rx
 have fin:∀(its:List Value),Vals ys its→ys.length≤sizeLine→∀(h':Heap) (c':Nat),(∀b o',s.heap.get? b=some o'→h'.get? b=some o')→
   h'.get? s.heap.objs.size=some {cls:=.type "list",dict:=none,data:=.seq its.toArray c',slots:=#[]}→EP X pins σ Q (.ref s.heap.objs.size) {s with heap:=h'}:=fun its r' hz h' c' kp e=>
  ⟨.ref s.heap.objs.size,_,I.laid (t':=s.toks) kp (fQ _) (show ObjOk X.prog X.w _ h' _ (.lst ys)from⟨hz,its,c',r',e⟩),rfl,q _ (I.hok.fresh (fQ _))⟩
 rcases hq with hq |hq
 ·obtain⟨its,r',pl,hz⟩:=I.list hq
  have hlen:=r'.length
  obtain⟨o,ho,hc,n,hd⟩:=pl.isList
  exact call_list_seq p (.inl rfl) ho hc hd (fun h' c' kp e=>fin its r' hz h' c' kp e) (by simp only[l_] <;> omega)
 ·obtain⟨its,r',pl,hz⟩:=I.tuple hq
  have hlen:=r'.length
  obtain⟨o,ho,hc,n,hd⟩:=pl
  exact call_list_seq p (.inr rfl) ho hc hd (fun h' c' kp e=>fin its r' hz h' c' kp e) (by simp only[l_] <;> omega)
def GN(K:Frag)(T:String)(x:V)(H:Hp):Prop:=match x with
 |.str _=>T="str"
 |.int _=>T="int"
 |.ref p=>(T="list"∧∃xs,SqL K H p xs)∨(T="tuple"∧∃o,K.lookup p=some o∧o.cls=.type "tuple"∧o.dict=none)∨
   (T="dict"∧((∃kvs,H p=some (.dK kvs))∨∃kvs,H p=some (.dT kvs)))∨(T="set"∧∃S n,H p=some (.set S n))
 |_=>False
theorem yC{pins:List (Addr×Obj)}{σ:St}{H:Hp}{s:Shared}{T:String}{x:V}{v:Value}(I:Inv X pins σ H s)(r:RelV x v)(ty:GN X.K T x H):
  s.TypeIs v T∧∀a,v=.ref a→∃ob,s.heap.get? a=some ob∧ob.dict=none:=by
 cases x with
 |str z=>
  obtain⟨t,rfl⟩:=r
  cases(show T="str" from ty)
  exact⟨typeIs_str s z t,fun _ e=>nomatch e⟩
 |int i=>
  obtain⟨t,rfl⟩:=r
  cases(show T="int" from ty)
  exact⟨typeIs_int s i t,fun _ e=>nomatch e⟩
 |ref p=>
  cases r
  rcases ty with⟨rfl,xs,hq⟩ |⟨rfl,o,hk,hc,hd⟩ |⟨rfl,hk⟩ |⟨rfl,S,n,hk⟩
  ·obtain⟨its,_,pl,_⟩:=I.list hq
   refine⟨pl.isList.typeIs,fun a e=>?_⟩
   cases e
   obtain⟨o,n,e,c,hd,_⟩:=pl
   exact⟨o,e,hd⟩
  ·refine⟨⟨o,I.kIn p o hk,hc⟩,fun a e=>?_⟩
   cases e
   exact⟨o,I.kIn _ o hk,hd⟩
  ·have z:∃o,s.heap.get? p=some o∧o.ExactDict:=by
    rcases hk with⟨kvs,hk⟩ |⟨kvs,hk⟩
    ·obtain⟨_,_,_,_,o,_,_,e,ex,_⟩:=I.hok p _ hk
     exact⟨o,e,ex⟩
    ·obtain⟨_,_,_,_,o,_,_,e,ex,_⟩:=I.hok p _ hk
     exact⟨o,e,ex⟩
   obtain⟨o,e,ex⟩:=z
   refine⟨⟨o,e,ex.1⟩,fun a e2=>?_⟩
   cases e2
   exact⟨o,e,ex.2.1⟩
  ·obtain⟨o,_,_,_,e,ex,_⟩:=I.hok p _ hk
   refine⟨⟨o,e,ex.1⟩,fun a e2=>?_⟩
   cases e2
   exact⟨o,e,ex.2.1⟩
 |_=>exact False.elim ty
def GO(K:Frag)(T:String)(r:V→List V→Hp→VK→Prop)(to:TE):TE:=fun σ H Q=>to σ H fun x H1=>GN K T x H1∧r x [] H1 Q
def Hu(K:Frag)(T:String)(r:V→List V→Hp→VK→Prop)(to:TE)(t:TA):TE:=fun σ H Q=>to σ H fun x H1=>GN K T x H1∧t σ H1 fun xs H2=>r x xs H2 Q
variable {o e:Expr} {es:List Expr} {to:TE} {t:TA} {name:Str} {apos cpos:Pos} {T id:String} {r:V→List V→Hp→VK→Prop}
theorem DR (pa:PlainAttrs T) (slot:Slot T name id) (hty:typeOf (.builtin id)=pure (.type "method_descriptor")) (hm:GL X id r) (ho:PE X o to)
  (hbase:attributeBase o name X.env (eval o X.env)=eval o X.env:=by rfl) (hline:(apos.endLine == cpos.line)=true:=by rfl):PE X (.Call (.Attribute o name apos) [] [] cpos) (GO X.K T r to):=by
 intro pins s σ H Q I h
 refine wpAny_Call_method0_late hbase hline (eG (ho pins s σ H _ I h) fun v s1 ⟨x,H1,I1,r1,ty,q1⟩=>?_)
 obtain⟨h1,h2⟩:=yC I1 r1 ty
 exact⟨T,id,pa,slot,hty,h1,h2,Calls.callWith_builtin rfl (PySem.evalArgs_none (hm pins s1 σ H1 x [] v [] Q I1 r1 .nil q1))⟩
theorem CT (pa:PlainAttrs T) (slot:Slot T name id) (hty:typeOf (.builtin id)=pure (.type "method_descriptor")) (hm:GL X id r) (ho:PE X o to) (ha:PA X (e::es) t)
  (hbase:attributeBase o name X.env (eval o X.env)=eval o X.env:=by rfl)
  (hfew:((backTo cpos (starEach (e::es) X.env)).all (fun x=> !x.1)&&(backToKw cpos (keywordEach [] X.env)).all (fun x=>x.1.isSome)
   &&decide ((e::es).length+([]:List Keyword).length+(if ([]:List Keyword).isEmpty then 0 else 1) < 30))=true:=by rfl)
  (hline:(apos.endLine == cpos.line)=true:=by rfl) (hs:starEach (e::es) X.env=(false,eval e X.env)::starEach es X.env:=by rfl) (hplain:(backTo cpos (starEach es X.env)).any (·.1)=false:=by rfl):
  PE X (.Call (.Attribute o name apos) (e::es) [] cpos) (Hu X.K T r to t):=by
 intro pins s σ H Q I h
 refine wpAny_Call_method_late hbase hfew hline rfl (eG (ho pins s σ H _ I h) fun v s1 ⟨x,H1,I1,r1,ty,q1⟩=>?_)
 obtain⟨h1,h2⟩:=yC I1 r1 ty
 refine⟨T,id,pa,slot,hty,h1,h2,?_⟩
 have hA:=ha cpos pins s1 σ H1 _ I1 q1
 rw[hs]at hA ⊢
 refine Calls.callWith_builtin (by show(false||(backTo cpos (starEach es X.env)).any (·.1))=false;rw[hplain] <;> rfl) (Calls.evalArgs_plain ?_)
 exact eG hA fun us s2 ⟨vs,H2,I2,r2,q2⟩=>hm pins s2 σ H2 x vs v us Q I2 r1 r2 q2
end
end L2
namespace L2
open PySem PySem.Spec PyProof.Rows
def Hm(X:Cx)(id:String)(r:V→List V→Hp→VK→Prop):Prop:=
 ∀(pins:List (Addr×Obj)) (s:Shared) (σ:St) (H:Hp) (x:V) (xs:List V) (v:Value) (us:List Value) (Q:VK),Inv X pins σ H s→RelV x v→Vals xs us→r x xs H Q→
  wpAny (model X.prog X.w) X.A (call (.builtin id) (v::us)) (EP X pins σ Q) X.xe s
theorem Vals.one{x:V}{us:List Value}(h:Vals [x] us):∃u,us=[u]∧RelV x u:=by
 cases h with
 |cons r t=>cases t;exact⟨_,rfl,r⟩
theorem Vals.two{x y:V}{us:List Value}(h:Vals [x,y] us):∃u v,us=[u,v]∧RelV x u∧RelV y v:=by
 cases h with
 |cons r t=>
  obtain⟨v,rfl,q⟩:=Vals.one t
  exact⟨_,_,rfl,r,q⟩
theorem Vals.zero:∀{us:List Value},Vals [] us→us=[]
 |_,.nil=>rfl
theorem Vals.dropLast{xs:List V}{us:List Value}(h:Vals xs us):Vals xs.dropLast us.dropLast:=by
 induction h with
 |nil=>exact .nil
 |cons r t ih=>
  cases t with
  |nil=>exact .nil
  |cons q t'=>exact .cons r ih
theorem Vals.eraseIdx:∀{xs:List V} {us:List Value} (i:Nat),Vals xs us→Vals (xs.eraseIdx i) (us.eraseIdx i)
 |_,_,_,.nil=>.nil
 |_,_,0,.cons _ t=>t
 |_,_,i+1,.cons r t=>.cons r (Vals.eraseIdx i t)
theorem Vals.reverse{xs:List V}{us:List Value}(h:Vals xs us):Vals xs.reverse us.reverse:=by
 induction h with
 |nil=>exact .nil
 |cons r t ih=>rw[List.reverse_cons,List.reverse_cons];exact Vals.append ih (.cons r .nil)
theorem Vals.rep{xs:List V}{us:List Value}(h:Vals xs us):∀k:Nat,Vals (List.replicate k xs).flatten (List.replicate k us).flatten
 | 0=>.nil
 |k+1=>by
  rw[List.replicate_succ,List.replicate_succ,List.flatten_cons,List.flatten_cons]
  exact Vals.append h (Vals.rep h k)
theorem uK{α:Type}(l:List α):l.eraseIdx (l.length - 1)=l.dropLast:=by
 induction l with
 |nil=>rfl
 |cons a r ih=>
  cases r with
  |nil=>rfl
  |cons b r=>
   have e:(a::b::r).length - 1=((b::r).length - 1)+1:=by
    have h1:(a::b::r).length=r.length+2:=rfl
    have h2:(b::r).length=r.length+1:=rfl
    omega
   rw[e,List.eraseIdx_cons_succ,ih]
   all_goals rfl
section
variable {X:Cx} {pins:List (Addr×Obj)} {σ:St} {H:Hp} {s:Shared} {l b:Addr} {xs ys zs:List V}
theorem Inv.lset{its its':List Value}{n:Nat}{f:Array Value→Array Value}{t':Nat}(I:Inv X pins σ H s)(hH:H l=some (.lst xs))
  (e:s.heap.get? l=some {cls:=.type "list",data:=.seq its.toArray n}) (hf:f its.toArray=its'.toArray) (hv:Vals ys its') (hz:ys.length≤sizeLine):
  Inv X pins σ (upd H l (.lst ys)) {s with heap:=s.heap.update l (Obj.mapSeq f),toks:=t'}:=by
 have q:=PySem.IsL.update e f
 rw[hf]at q
 refine I.write (x:=l) (e:=l) (by rw[hH];exact trivial) (.inl rfl) (fun b' u hb hu=>(AL s.heap (Obj.mapSeq f) (Ne.symm hb)).trans hu) ⟨_,q⟩ ?_
 exact⟨hz,its',_,hv,q⟩
theorem Inv.lnew{its:List Value}{t':Nat}(I:Inv X pins σ H s)(hv:Vals ys its)(hz:ys.length≤sizeLine):
  Inv X pins σ (upd H s.heap.objs.size (.lst ys)) {s with heap:=s.heap.push {cls:=.type "list",data:=.seq its.toArray},toks:=t'}:=
 I.laid (fun _ _ q=>gw _ q) (fQ _) ⟨hz,its,0,hv,lh _ rfl⟩
theorem Inv.fresh(I:Inv X pins σ H s):H s.heap.objs.size=none:=I.hok.fresh (fQ _)
theorem Inv.lstM(I:Inv X pins σ H s)(hH:H l=some (.lst xs)):xs.length≤sizeLine∧∃(its:List Value) (n:Nat),Vals xs its∧xs.length=its.length∧s.heap.get? l=some {cls:=.type "list",data:=.seq its.toArray n}:=by
 obtain⟨z,its,n,r,e⟩:=I.hok l _ hH
 exact⟨z,its,n,r,r.length,e⟩
end
section
variable {X:Cx}
def Bp:V→List V→Hp→VK→Prop:=fun x vs H Q=>∃l xs y,x=.ref l∧vs=[y]∧H l=some (.lst xs)∧xs.length < sizeLine∧Q .non (upd H l (.lst (xs++[y])))
theorem mf:Hm X "list.append" Bp:=by
 intro pins s σ H x vs v us Q I rx rv h
 obtain⟨l,xs,y,rfl,rfl,hH,hz,q⟩:=h
 cases rx
 obtain⟨u,rfl,ru⟩:=rv.one
 obtain⟨z,its,n,r,hl,e⟩:=I.lstM hH
 refine call_meets F.slot_list_append ⟨_,e,rfl⟩ F.entry_list_append (F.args_list_append_2 _ _) (PySem.list_append l its.toArray n u (by rw[l_];omega)) ⟨e,?_⟩
 refine⟨.non,_,I.lset (its':=its++[u]) hH e (by simp) (r.append (.cons ru .nil)) ?_,rfl,q⟩
 rw[vH,List.length_singleton]
 omega
def GP:V→List V→Hp→VK→Prop:=fun x vs H Q=>∃l xs y,x=.ref l∧vs=[]∧H l=some (.lst xs)∧xs[xs.length - 1]? =some y∧Q y (upd H l (.lst xs.dropLast))
theorem DS:Hm X "list.pop" GP:=by
 intro pins s σ H x vs v us Q I rx rv h
 obtain⟨l,xs,y,rfl,rfl,hH,hy,q⟩:=h
 cases rx
 have hus:=rv.zero
 subst hus
 obtain⟨z,its,n,r,hl,e⟩:=I.lstM hH
 obtain⟨u,hu,ru⟩:=r.get hy
 have hy':its.toArray[its.toArray.size - 1]? =some u:=by
  show its.toArray[its.length - 1]? =some u
  rw[←Array.getElem?_toList,←hl]
  exact hu
 refine call_meets F.slot_list_pop ⟨_,e,rfl⟩ F.entry_list_pop (F.args_list_pop_1 _) (MeetsSeq.list_pop_last l its.toArray n u hy' (by rw[l_];omega)) ⟨e,?_⟩
 refine⟨y,_,I.lset (its':=its.dropLast) hH e ?_ r.dropLast ?_,ru,q⟩
 ·show its.toArray.eraseIdxIfInBounds (its.toArray.size - 1)=its.dropLast.toArray
  rw[l_,List.eraseIdxIfInBounds_toArray,uK]
 ·rw[List.length_dropLast]
  omega
theorem Bq{α:Type}(xs:List α)(k:Nat):(List.replicate k xs).flatten.length=k*xs.length:=by
 induction k with
 |zero=>simp
 |succ k ih=>rw[List.replicate_succ,List.flatten_cons,vH,ih,Nat.succ_mul,Nat.add_comm]
end
end L2
namespace Att
open PySem PySem.W PySem.Calls PyProof.Rows
theorem nq{P:Params}{h:Heap}:∀(ns:List Int) (vs:List Value),WellAll P h vs (ns.map WData.int)→IntsAre vs ns:=by
 intro ns
 induction ns with
 |nil=>
  intro vs w
  rw[jh]at w
  cases w
  exact .nil
 |cons n ns ih=>
  intro vs w
  rw[dN]at w
  cases w with
  |cons a b=>
   cases a
   exact .cons _ _ (ih _ b)
theorem wZ{l:OpenLaw}{n:Nat}(hn:l.most=some n){P:Params}{h:Heap}{args:List WData}{vals:List Value}
  (hpre:l.row.toRowW.claim.pre args=true) (hwl:WellAll P h vals args):
  ∃a vs ns,vals=[Value.ref a]∧args=[WData.list (ns.map WData.int)]∧h.get? a=some {cls:=.type "list",data:=.seq vs.toArray}∧IntsAre vs ns∧ns.length≤n:=by
 have hsh:WShape.hasAll [] args [.list .int]=true:=(pre_splitW hpre).1
 have hc:l.pre.holds [] {args:=args}=true:=(pre_splitW hpre).2
 obtain⟨d,r,rfl,h1,h2⟩:=hasAllW_cons hsh
 obtain rfl:=hasAllW_nil h2
 obtain⟨xs,rfl,h3⟩:=hasW_list h1
 obtain⟨ns,rfl⟩:=items_int h3
 have hlen:ns.length≤n:=by
  unfold OpenLaw.pre at hc
  have h4:(WTm.not (.lt (.lit (.int (n:Int))) (.len (.arg 0)))).holds [] {args:=[.list (ns.map .int)]}=true:=by
   have h4:=(holds_andW hc).1
   rw[hn]at h4
   exact h4
  have h5:=condW_of h4 (w_not (w_lt w_lit (w_len_list (w_arg rfl))))
  rw[fH]at h5
  refine Nat.le_of_not_lt fun q=>?_
  have q':(n:Int) < ((ns.length:Nat):Int):=by omega
  first
   |(rw[decide_eq_true q']at h5;exact absurd h5 (by decide))
   |(simp at h5;omega)
 cases hwl with
 |cons w1 w2=>
  cases w2
  cases w1 with
  |list ho hall=>exact⟨_,_,ns,rfl,rfl,ho,nq ns _ hall,hlen⟩
theorem w5(l:OpenLaw)(args:List WData):l.row.toRowW.claim.post args (.bool true) args=true:=
 postW_of (r:=l.row.toRowW) (X:=(true == true))
  (show WShape.has [] (.bool true) .bool=true by first |rfl |decide |simp[WShape.has,WShape.arms,WShape.armsAll])
  (show(WTm.eq .res (.lit (.bool true))).value [] {args:=args,res:=some (.bool true),after:=args}=some (.bool (true == true))from w_eq_bool (w_res rfl) w_lit) rfl
theorem sG{l:OpenLaw}{n:Nat}{q:Program}{loose:List Str}{XP:(Str→Option Value)→Heap→Prop}{YP:World→Heap→Prop}{d:DefRec}
  (hn:l.most=some n) (hdf:d.params.defaults=[])
  (call:∀(w:World) (s₀ s₁:Shared) (mg mb:Str→Option Value) (fa:Addr) (o:Obj) (pm cd doc:Value) (a:Addr) (vs:List Value) (ns:List Int),
   Ground q loose [] XP w s₀ mg mb s₁.heap→YP w s₁.heap→
   s₁.heap.get? fa=some o→o.data=.func (docDef d.name d.params d.body d.scope pm cd doc)→s₁.heap.CodeRec cd d.name→mg d.name=some (.ref fa)→
   s₁.heap.get? a=some {cls:=.type "list",data:=.seq vs.toArray}→IntsAre vs ns→ns.length≤n→s₁.gens=#[]→
   codeAny (model l.prog w) callerA (.call (.ref fa) ⟨[.ref a],[]⟩) (fun r s'=>r=.ok (.ret (.bool true))∧OldK s₁.heap s'.heap∧s'.os=s₁.os∧AllBare s'.gens) s₁):
  WalkO q loose XP YP l.row.toRowW d [] (fun f vs=>PySem.call f vs):=by
 intro w s₀ s₁ mg mb G Y fa o pm cd doc dV kV ho hd hcd hD hmg hg args vals as hpre hlay hrd hwl hlo
 obtain rfl:dV=.none:=Dflts.none hD hdf
 obtain rfl:kV=.none:=Dflts.noKw hD
 obtain⟨a,vs,ns,rfl,rfl,hobj,hints,hlen⟩:=wZ hn hpre hwl
 refine enter_call (codeAny_mono (call w s₀ s₁ mg mb fa o pm cd doc a vs ns G Y ho (fd_plain hd) hcd hmg hobj hints hlen hg) fun r s' hq=>?_)
 obtain⟨rfl,h2,h3,h4⟩:=hq
 exact⟨.inl ⟨.bool true,.bool true,[],rfl,fun _=>rfl,.bool true,w5 l _,fun _=>⟨List.Pairwise.nil,fun _ hm=>(nomatch hm)⟩⟩,h2,h3,h4⟩
end Att
namespace L2
open PySem PySem.Spec PyProof.Rows
theorem jU:∀{vs:List Value} {ns:List Int},IntsAre vs ns→Vals (ns.map V.int) vs
 |_,_,.nil=>.nil
 |_,_,.cons n t h=>.cons ⟨t,rfl⟩ (jU h)
theorem ObjOk.tbl0{P:Program}{w:World}{H:Hp}{h:Heap}{b:Addr}{q:Str}(e:h.get? b=some (tabObj #[])):ObjOk P w H h b (.tbl q):=⟨#[],e,trivial,fun pos cv z=>by cases z⟩
end L2
namespace L2
open PySem PySem.Spec PyProof.Rows
def aI(s:Stmt):Arguments:=match s with
 | .FunctionDef _ a _ _ _ _ _ _ _ _=>a
 |_=>{posonlyargs:=[],args:=[],vararg:=none,kwonlyargs:=[],kw_defaults:=[],kwarg:=none,defaults:=[]}
def aA(s:Stmt):List Stmt:=match s with
 | .FunctionDef _ _ b _ _ _ _ _ _ _=>b
 |_=>[]
def af(s:Stmt):Scope:=match s with
 | .FunctionDef _ _ _ _ _ _ sc _ _ _=>sc
 |_=>{kind:=.function,names:=[],isGenerator:=false,isCoroutine:=false}
abbrev nX:wX:=fun _ _ _ _ _ _=>False
abbrev E0:XK:=fun _ _ _=>False
theorem Fv{X:Cx}:uI nX X E0:=fun _ _ _ _ _ _ _ h=>h.elim
structure Fun (K:Frag) (x qual:Str) (st:Stmt) (f:Addr) (fd:FuncData):Prop where
 ex:∃(oc:Value) (od:Option Addr) (kV doc pm:Value) (an:Option Addr) (cdv ct:Value) (osl:Array (Option Value)),
  fd=fnOf x qual (aI st) (aA st) (af st) .none kV doc pm an cdv ct∧K.lookup f=some ⟨oc,od,.func fd,osl⟩∧codeIn K cdv qual=true
 kp:keepIn K (.ref f)=true
section
variable {P:Program} {w:World} {K:Frag} {mg:Str→Option Value} {base:Heap}
theorem Fun.ok{x qual:Str}{st:Stmt}{f:Addr}{fd:FuncData}{N ps:List Str}{k:Nat}{sp:Sp}(F:Fun K x qual st f fd)(S:FnScope N ps (af st))(len:∀vs H Q E,sp vs H Q E→vs.length=ps.length)
  (hbody:∀(cdv:Value) (A:Around) (outer:List Env) (s:Shared) (H:Hp) (vs:List V) (Q:VK) (E:XK),Room k (A.deeper (envOfC qual (af st) s.heap.objs.size f cdv))→sp vs H Q E→
   ∃t,PSs (gY nX P w K mg base N qual (af st) f cdv A outer s H E).nox (aA st) t∧t {nx:=fun _ H'=>Q .non H',rt:=Q} (eO N vs) H):FnOk P w K mg base nX (k+1) f fd ps sp:=by
 obtain⟨oc,od,kV,doc,pm,an,cdv,ct,osl,rfl,lk,hcd⟩:=F.ex
 refine yy lk hcd S len fun A outer s H vs Q E hr hsp=>?_
 obtain⟨t,h,q⟩:=hbody cdv A outer s H vs Q E hr hsp
 exact⟨t,h.nox,q⟩
theorem Fun.binds{x qual:Str}{st:Stmt}{f:Addr}{fd:FuncData}{ps:List Str}(F:Fun K x qual st f fd)
  (h:∀(kV doc pm:Value) (an:Option Addr) (cdv ct:Value) (us:List Value),us.length=ps.length→bindArgs (fnOf x qual (aI st) (aA st) (af st) .none kV doc pm an cdv ct) ⟨us,[]⟩=pure (ps.zip us)):Binds K fd ps []:=by
 obtain⟨oc,od,kV,doc,pm,an,cdv,ct,osl,rfl,lk,hcd⟩:=F.ex
 exact .all (h kV doc pm an cdv ct)
theorem uL{x qual:Str}{st:Stmt}{f:Addr}{oc:Value}{od an:Option Addr}{osl:Array (Option Value)}{kV doc pm cdv ct:Value}(l:K.lookup f=some ⟨oc,od,.func (fnOf x qual (aI st) (aA st) (af st) .none kV doc pm an cdv ct),osl⟩)
  (c:codeIn K cdv qual=true) (k:keepIn K (.ref f)=true):Fun K x qual st f (fnOf x qual (aI st) (aA st) (af st) .none kV doc pm an cdv ct):=⟨⟨oc,od,kV,doc,pm,an,cdv,ct,osl,rfl,l,c⟩,k⟩
end
def Same(H H':Hp):Prop:=∀b o,H b=some o→H' b=some o
theorem Same.refl(H:Hp):Same H H:=fun _ _ h=>h
theorem Same.trans{H H1 H2:Hp}(a:Same H H1)(b:Same H1 H2):Same H H2:=fun c o h=>b c o (a c o h)
theorem Same.free{H H':Hp}(e:Same H H'){l:Addr}(h:H' l=Option.none):H l=Option.none:=by
 cases q:H l with
 |none=>rfl
 |some o=>
  rw[e l o q]at h
  cases h
theorem Same.seq{K:Frag}{H H':Hp}{a:Addr}{xs:List V}(e:Same H H')(h:SqL K H a xs):SqL K H' a xs:=by
 rcases h with(h |⟨o,h⟩) |h
 ·exact .inl (.inl (e _ _ h))
 ·exact .inl (.inr ⟨o,e _ _ h⟩)
 ·exact .inr h
end L2
namespace NH
section
variable {α:Type} [DecidableEq α]
def stp(r:List (α×Int))(p:α×Int):List (α×Int):=
 match r with
 |[]=>if p.2=0 then []else [p]
 |q::r'=>if q.1=p.1 then (if q.2+p.2=0 then r' else (p.1,q.2+p.2)::r')else (if p.2=0 then q::r' else p::q::r')
def stk(c:List (α×Int)):List (α×Int):=c.foldl stp []
def short(c:List (α×Int)):List (α×Int):=(stk c).reverse
def Br(c:List (α×Int)):List (α×Int):=c.foldr (fun p r=>stp r p) []
def Red:List (α×Int)→Prop
 |[]=>True
 |[p]=>p.2≠0
 |p::q::r=>p.2≠0∧p.1≠q.1∧Red (q::r)
theorem Red.tail{p:α×Int}{r:List (α×Int)}(h:Red (p::r)):Red r:=by
 cases r with
 |nil=>trivial
 |cons q r=>exact h.2.2
theorem Red.head{p:α×Int}{r:List (α×Int)}(h:Red (p::r)):p.2≠0:=by
 cases r with
 |nil=>exact h
 |cons q r=>exact h.1
theorem Red.cons{p:α×Int}{r:List (α×Int)}(h0:p.2≠0)(h1:∀q∈r.head?,p.1≠q.1)(h:Red r):Red (p::r):=by
 cases r with
 |nil=>exact h0
 |cons q r=>exact⟨h0,h1 q rfl,h⟩
theorem Red.next{p:α×Int}{r:List (α×Int)}(h:Red (p::r)):∀q∈r.head?,p.1≠q.1:=by
 cases r with
 |nil=>intro q hq;cases hq
 |cons q r=>intro q' hq;cases hq;exact h.2.1
theorem Bs{r:List (α×Int)}(h:Red r)(p:α×Int):Red (stp r p):=by
 cases r with
 |nil=>
  unfold stp
  by_cases h0:p.2=0
  ·simp[h0,Red]
  ·simp[h0,Red]
 |cons q r=>
  show Red (if q.1=p.1 then (if q.2+p.2=0 then r else (p.1,q.2+p.2)::r)else (if p.2=0 then q::r else p::q::r))
  by_cases e:q.1=p.1
  ·rw[if_pos e]
   by_cases z:q.2+p.2=0
   ·rw[if_pos z];exact h.tail
   ·rw[if_neg z]
    refine Red.cons z (fun s hs=>?_) h.tail
    rw[←e];exact h.next s hs
  ·rw[if_neg e]
   by_cases z:p.2=0
   ·rw[if_pos z];exact h
   ·rw[if_neg z];exact⟨z,fun t=>e t.symm,h⟩
theorem p9:∀(c:List (α×Int)) {r:List (α×Int)},Red r→Red (c.foldl stp r)
 |[],_,h=>h
 |p::c,_,h=>p9 c (Bs h p)
theorem Bt(c:List (α×Int)):Red (stk c):=p9 c trivial
theorem sH{r:List (α×Int)}(h:Red r)(n:α):stp r (n,0)=r:=by
 cases r with
 |nil=>simp[stp]
 |cons q r=>
  have:=h.head
  unfold stp
  by_cases e:q.1=n
  ·obtain⟨a,b⟩:=q
   simp at e this
   subst e
   simp[this]
  ·simp[e]
theorem Bu{r:List (α×Int)}(h:Red r)(n:α)(a b:Int):stp (stp r (n,a)) (n,b)=stp r (n,a+b):=by
 cases r with
 |nil=>
  by_cases ha:a=0
  ·subst ha;simp[stp]
  ·simp[stp,ha]
 |cons q r=>
  obtain⟨m,u⟩:=q
  have hu:u≠0:=h.head
  by_cases e:m=n
  ·subst e
   by_cases z:u+a=0
   ·have e1:stp ((m,u)::r) (m,a)=r:=by simp[stp,z]
    rw[e1]
    have ez:u+(a+b)=b:=by omega
    have hn:=h.next
    cases r with
    |nil=>
     by_cases hb:b=0
     ·subst hb;simp[stp];omega
     ·simp[stp,ez,hb]
    |cons s r=>
     have e2:¬s.1=m:=fun t=>hn s rfl t.symm
     by_cases hb:b=0
     ·subst hb;simp[stp,e2];omega
     ·simp[stp,ez,hb,e2]
   ·have e1:stp ((m,u)::r) (m,a)=(m,u+a)::r:=by simp[stp,z]
    rw[e1]
    simp only[stp,if_true]
    rw[Int.add_assoc]
  ·by_cases ha:a=0
   ·subst ha;simp[stp,e]
   ·simp[stp,e,ha]
def sn(w:List (α×Int))(p:α×Int):List (α×Int):=(stp w.reverse p).reverse
def yg(p x:α×Int):List (α×Int):=if x.1=p.1 then (if x.2+p.2=0 then []else [(p.1,x.2+p.2)])else (if p.2=0 then [x]else [p,x])
theorem iF(p x:α×Int)(r:List (α×Int)):stp (x::r) p=yg p x++r:=by
 show(if x.1=p.1 then (if x.2+p.2=0 then r else (p.1,x.2+p.2)::r)else (if p.2=0 then x::r else p::x::r))=yg p x++r
 unfold yg
 by_cases e:x.1=p.1
 ·rw[if_pos e,if_pos e];split <;> rfl
 ·rw[if_neg e,if_neg e];split <;> rfl
def GQ(x p:α×Int):List (α×Int):=(yg p x).reverse
theorem vP(p x:α×Int)(r:List (α×Int)):sn (r++[x]) p=r++GQ x p:=by
 unfold sn GQ
 rw[List.reverse_append,List.reverse_singleton,List.singleton_append,iF,List.reverse_append,List.reverse_reverse]
theorem Fw(p q:α×Int)(x:α×Int)(hx:x.2≠0):stp (sn [x] q) p=sn (stp [x] p) q:=by
 obtain⟨n,a⟩:=p
 obtain⟨k,b⟩:=q
 obtain⟨m,u⟩:=x
 simp at hx
 by_cases e1:m=n
 ·subst e1
  by_cases e2:m=k
  ·subst e2
   by_cases z1:u+a=0 <;> by_cases z2:u+b=0
   ·simp[stp,sn,z1,z2]
    have:a=b:=by omega
    have ha:a≠0:=by omega
    have hb:b≠0:=by omega
    simp[ha,hb,this]
   ·have hb:u+b+a=b:=by omega
    by_cases b0:b=0
    ·subst b0;simp[stp,sn,z1,hx]
    ·simp[stp,sn,z1,z2,hb,b0]
   ·have hb:u+a+b=a:=by omega
    by_cases a0:a=0
    ·subst a0;simp[stp,sn,z2,hx]
    ·simp[stp,sn,z1,z2,hb,a0]
   ·have hb:u+b+a=u+a+b:=by omega
    by_cases z3:u+a+b=0
    ·simp[stp,sn,z1,z2,hb,z3]
    ·simp[stp,sn,z1,z2,hb,z3]
  ·by_cases z1:u+a=0 <;> by_cases z2:b=0 <;> simp[stp,sn,e2,z1,z2]
 ·by_cases e2:m=k
  ·subst e2
   by_cases z1:u+b=0 <;> by_cases z2:a=0 <;> simp[stp,sn,e1,z1,z2]
  ·by_cases z1:a=0 <;> by_cases z2:b=0 <;> simp[stp,sn,e1,e2,z1,z2]
theorem Fx(p q:α×Int):stp (sn [] q) p=sn (stp [] p) q:=by
 obtain⟨n,a⟩:=p
 obtain⟨k,b⟩:=q
 by_cases z1:a=0 <;> by_cases z2:b=0
 ·simp[stp,sn,z1,z2]
 ·by_cases e:k=n <;> simp[stp,sn,z1,z2,e]
 ·by_cases e:n=k <;> simp[stp,sn,z1,z2,e]
 ·by_cases e:k=n
  ·subst e
   by_cases z:a+b=0
   ·have z':b+a=0:=by omega
    simp[stp,sn,z1,z2,z,z']
   ·have z':¬b+a=0:=by omega
    simp[stp,sn,z1,z2,z,z']
    omega
  ·have e':¬n=k:=fun t=>e t.symm
   simp[stp,sn,z1,z2,e,e']
theorem comm(p q:α×Int){w:List (α×Int)}(h:Red w):stp (sn w q) p=sn (stp w p) q:=by
 cases w with
 |nil=>exact Fx p q
 |cons x r=>
  rcases List.eq_nil_or_concat r with rfl |⟨m,y,e⟩
  ·exact Fw p q x h
  ·have e':r=m++[y]:=by rw[e] <;> simp
   subst e'
   have e1:x::(m++[y])=(x::m)++[y]:=rfl
   have e2:sn (x::(m++[y])) q=x::(m++GQ y q):=by rw[e1,vP];rfl
   rw[e2,iF,iF,←pA,←pA,vP]
theorem gz:∀{m:List (α×Int)} {y z:α×Int},Red (m++[y])→z.2≠0→y.1≠z.1→Red (m++[y]++[z])
 |[],y,z,h,h0,h1=>⟨h,h1,h0⟩
 |[x],y,z,h,h0,h1=>⟨h.1,h.2.1,gz (m:=[]) h.2.2 h0 h1⟩
 |x::x'::m,y,z,h,h0,h1=>⟨h.1,h.2.1,gz (m:=x'::m) h.2.2 h0 h1⟩
theorem mT:∀{w:List (α×Int)},Red w→Red w.reverse
 |[],_=>trivial
 |[p],h=>h
 |p::q::r,h=>by
  have ih:=mT (w:=q::r) h.2.2
  rw[List.reverse_cons,List.reverse_cons]
  rw[List.reverse_cons]at ih
  exact gz ih h.1 fun t=>h.2.1 t.symm
theorem iG(c:List (α×Int)):Red (short c):=mT (Bt c)
theorem nY(c:List (α×Int))(p:α×Int):short (c++[p])=sn (short c) p:=by
 unfold short stk sn
 rw[List.foldl_append,List.reverse_reverse]
 rfl
theorem fU(p:α×Int):∀c:List (α×Int),short (p::c)=stp (short c) p:=by
 intro c
 induction hn:c.length generalizing c with
 |zero=>
  have:c=[]:=List.length_eq_zero_iff.mp hn
  subst this
  simp[short,stk,stp]
  by_cases z:p.2=0 <;> simp[z]
 |succ n ih=>
  rcases List.eq_nil_or_concat c with rfl |⟨m,y,e⟩
  ·simp at hn
  ·have e':c=m++[y]:=by rw[e] <;> simp
   subst e'
   have hm:m.length=n:=by simp at hn;exact hn
   have e1:p::(m++[y])=(p::m)++[y]:=rfl
   rw[e1,nY,ih m hm,nY,comm p y (iG m)]
theorem kl:∀c:List (α×Int),short c=Br c
 |[]=>rfl
 |p::c=>by rw[fU,kl c];rfl
theorem mU:∀{w:List (α×Int)},Red w→Br w=w
 |[],_=>rfl
 |[p],h=>by
  have:p.2≠0:=h
  simp[Br,stp,this]
 |p::q::r,h=>by
  have ih:=mU (w:=q::r) h.2.2
  show stp (Br (q::r)) p=_
  rw[ih]
  have h1:¬q.1=p.1:=fun t=>h.2.1 t.symm
  simp[stp,h1,h.1]
theorem Bv(r:List (α×Int))(p:α×Int):(stp r p).length≤r.length+1:=by
 cases r with
 |nil=>by_cases z:p.2=0 <;> simp[stp,z]
 |cons q r=>rw[iF];unfold yg;split <;> split <;> simp <;> omega
end
end NH
namespace L2
open PySem PySem.Spec PyProof.Rows
theorem fg{H:Hp}{p:Addr}(h:H p=none)(o:HO):Same H (upd H p o):=fun b u q=>by rw[aB (bB q h)];exact q
theorem Same.tup{K:Frag}{H H':Hp}{a:Addr}{xs:List V}(e:Same H H')(h:SqT K H a xs):SqT K H' a xs:=by
 rcases h with(h |⟨o,h⟩) |h
 ·exact .inl (.inl (e _ _ h))
 ·exact .inl (.inr ⟨o,e _ _ h⟩)
 ·exact .inr h
def SameBut(l:Addr)(H H':Hp):Prop:=∀b o,b≠l→H b=some o→H' b=some o
theorem SameBut.upd{H:Hp}{l:Addr}(o:HO):SameBut l H (upd H l o):=fun b u hb q=>by rw[aB hb];exact q
theorem SameBut.trans{H H1 H2:Hp}{l:Addr}(a:SameBut l H H1)(b:SameBut l H1 H2):SameBut l H H2:=fun c o hc q=>b c o hc (a c o hc q)
theorem SameBut.same{H H':Hp}{l:Addr}(a:SameBut l H H')(h:H l=none):Same H H':=fun b o q=>a b o (bB q h) q
theorem SameBut.tup{K:Frag}{H H':Hp}{l a:Addr}{xs ys:List V}(e:SameBut l H H')(hl:H l=some (.lst ys))(h:SqT K H a xs):SqT K H' a xs:=by
 rcases h with(h |⟨o,h⟩) |h
 ·exact .inl (.inl (e _ _ (CP h hl (by intro z;cases z)) h))
 ·exact .inl (.inr ⟨o,e _ _ (CP h hl (by intro z;cases z)) h⟩)
 ·exact .inr h
mutual
inductive DOf (K:Frag) (H:Hp):V→PyData→Prop
 |non:DOf K H .non .none
 |bl (b:Bool):DOf K H (.bl b) (.bool b)
 |int (i:Int):DOf K H (.int i) (.int i)
 |str (x:Str):DOf K H (.str x) (.str x)
 |lst {a:Addr} {xs:List V} {ds:List PyData}:SqL K H a xs→DAll K H xs ds→DOf K H (.ref a) (.list ds)
 |tup {a:Addr} {xs:List V} {ds:List PyData}:SqT K H a xs→DAll K H xs ds→DOf K H (.ref a) (.tuple ds)
inductive DAll (K:Frag) (H:Hp):List V→List PyData→Prop
 |nil:DAll K H [] []
 |cons {x:V} {xs:List V} {d:PyData} {ds:List PyData}:DOf K H x d→DAll K H xs ds→DAll K H (x::xs) (d::ds)
end
section
variable {X:Cx} {pins:List (Addr×Obj)} {σ:St} {H:Hp} {s:Shared}
theorem DOf.reads(I:Inv X pins σ H s){x:V}{d:PyData}{u:Value}(h:DOf X.K H x d)(r:RelV x u):∃as,Reads s.heap u d as:=DOf.rec (motive_1:=fun x d _=>∀{u:Value},RelV x u→∃as,Reads s.heap u d as) (motive_2:=fun xs ds _=>∀{us:List Value},Vals xs us→∃as,ReadsAll s.heap us ds as)
  (fun r=>by cases r;exact⟨_,Reads.none⟩) (fun b _ r=>by cases r;exact⟨_,Reads.bool b⟩) (fun i _ r=>by obtain⟨t,rfl⟩:=r;exact⟨_,Reads.int i t⟩) (fun x _ r=>by obtain⟨t,rfl⟩:=r;exact⟨_,Reads.str x t⟩)
  (fun hq _ ih _ r=>by
   cases r
   obtain⟨its,rv,⟨o,n,e,c,_,d⟩,_⟩:=I.list hq
   obtain⟨as,q⟩:=ih rv
   exact⟨_,reads_list_at e c d (by simpa using q)⟩)
  (fun hq _ ih _ r=>by
   cases r
   obtain⟨its,rv,⟨o,e,c,n,d⟩,_⟩:=I.tuple hq
   obtain⟨as,q⟩:=ih rv
   exact⟨_,reads_tuple_at e c d (by simpa using q)⟩)
  (fun r=>by cases r;exact⟨_,ReadsAll.nil⟩)
  (fun _ _ a b _ r=>by
   cases r with
   |cons r rt=>
    obtain⟨as,q⟩:=a r
    obtain⟨bs,p⟩:=b rt
    exact⟨_,ReadsAll.cons q p⟩) h r
end
def Fy(K:Frag):R2:=fun x y H Q=>∃d e,DOf K H x d∧DOf K H y e∧SeqAt.shaped d=true∧SeqAt.shaped e=true∧Q (.bl (PyData.eqv d e)) H
def Fz(K:Frag):R2:=fun x y H Q=>∃d e,DOf K H x d∧DOf K H y e∧SeqAt.shaped d=true∧SeqAt.shaped e=true∧Q (.bl (!PyData.eqv d e)) H
theorem yD{X:Cx}(hu:X.A.units+64 < cLine):OpR X (compareOp .Eq) (Fy X.K):=by
 intro pins s σ H x y v u Q I rx ry h
 obtain⟨d,e,hd,he,s1,s2,q⟩:=h
 obtain⟨as,ra⟩:=hd.reads I rx
 obtain⟨bs,rb⟩:=he.reads I ry
 exact eq_dataH ra rb s1 s2 hu ⟨.bl _,H,I,rfl,q⟩
theorem DT{X:Cx}(hu:X.A.units+64 < cLine):OpR X (compareOp .NotEq) (Fz X.K):=by
 intro pins s σ H x y v u Q I rx ry h
 obtain⟨d,e,hd,he,s1,s2,q⟩:=h
 obtain⟨as,ra⟩:=hd.reads I rx
 obtain⟨bs,rb⟩:=he.reads I ry
 exact ne_dataH ra rb s1 s2 hu ⟨.bl _,H,I,rfl,q⟩
end L2
namespace L2
open PySem PySem.Spec PyProof.Rows
section
variable {prog:Program} {w:World} {A:Around} {R:Result→Shared→Prop} {s:Shared}
theorem qT{elt target iter:Expr}{ifs:List Expr}{scope:Scope}{pos:Pos}{it acc:Value}{env:Env}(I:Nat→Shared→Prop)
  (turn:∀n s,I n s→wpAny (model prog w) A (pyNext it) (fun r s₁=>match r with
   |none=>R (.ok .next) s₁
   |some v=>wpAny (model prog w) A (letOwnedTupleGo target it v) (fun _ s₁'=>wpAny (model prog w) A (assign target env v) (fun _ s₂=>
     wpAny (model prog w) A (forIn ifs true fun c r=>if r=true then do let ok ←isTrue c env (eval c env);pure (ForInStep.yield ok)else pure (ForInStep.yield r)) (fun ok s₃=>
      if ok=true then wpAny (model prog w) A (eval elt env) (fun x s₄=>
       wpAny (model prog w) A (call (.builtin "list.append") [acc,x]) (fun _ s₅=>∃m,m < n∧I m s₅) (fun _ _=>False) s₄) (fun _ _=>False) s₃
      else ∃m,m < n∧I m s₃) (fun _ _=>False) s₂) (fun _ _=>False) s₁') (fun _ _=>False) s₁) (fun _ _=>False) s)
  (n:Nat) (h:I n s):
  codeAny (model prog w) A (.compLoop (.ListComp elt [⟨target,iter,ifs,0⟩] scope pos) 0 it acc env) R s:=by
 refine codeAny_loop rfl I (fun n s hI=>?_) n h
 show wpAny _ A ((compTurn (.ListComp elt [⟨target,iter,ifs,0⟩] scope pos) 0 it acc env).onRaise (fun x=>do noteFrame x env;theTreesLotGoes x)) _ _ s
 refine wpAny_noted ?_
 rw[compTurn_list]
 refine wpAny_bind (wpAny_standAt (wpAny_bind (wpAny_mono (turn n s hI) (fun r s₁ h₁=>?_) fun _ _ h'=>h'.elim)))
 cases r with
 |none=>exact wpAny_pure h₁
 |some v=>
  refine wpAny_bind (wpAny_mono h₁ (fun _ s₁' h₁'=>?_) fun _ _ h'=>h'.elim)
  refine wpAny_bind (wpAny_mono h₁' (fun _ s₂ h₂=>wpAny_bind (wpAny_mono h₂ (fun ok s₃ h₃=>?_) fun _ _ h'=>h'.elim)) fun _ _ h'=>h'.elim)
  cases ok with
  |false=>exact wpAny_pure ⟨rfl,h₃⟩
  |true=>
   exact wpAny_bind (wpAny_bind (wpAny_mono h₃ (fun x s₄ h₄=>wpAny_bind (wpAny_mono h₄ (fun _ s₅ h₅=>wpAny_pure (wpAny_pure ⟨rfl,h₅⟩)) fun _ _ h'=>h'.elim)) fun _ _ h'=>h'.elim))
end
def Cx.comp(X:Cx)(sc:Scope)(cl:List (Str×Addr))(N:List Str)(C:Addr)(s₀:Shared)(H₀:Hp)(fp:List Addr):Cx:=
 ⟨X.prog,X.w,X.K,X.mg,X.base,X.A,N,s₀,H₀,⟨sc,C,X.env.globals,cl,X.env.qual,none,X.env.code,X.env.frame,X.env.builtins⟩,X.stack,X.stack,fp,fun _=>false,X.calm,[],fun _ _=>False⟩
def FB(X:Cx)(ifs:List Expr)(t:TT):Prop:=
 ∀(pins:List (Addr×Obj)) (s:Shared) (σ:St) (H:Hp) (Q:Bool→Hp→Prop),Inv X pins σ H s→t σ H Q→
  wpAny (model X.prog X.w) X.A (forIn ifs true fun c r=>if r=true then do let ok ←isTrue c X.env (eval c X.env);pure (ForInStep.yield ok)else pure (ForInStep.yield r)) (TP X pins σ Q) X.xe s
def GR:TT:=fun _ H Q=>Q true H
theorem vQ{X:Cx}:FB X [] GR:=fun _ _ _ H _ I h=>wpAny_tests_nil ⟨H,I,h⟩
theorem Bw{X:Cx}{c:Expr}{t:TT}(h:PT X c t):FB X [c] t:=fun pins s σ H Q I q=>wpAny_tests_one (h pins s σ H Q I q)
def slots(js:List (Option Nat))(σ:St):St:=js.map fun j=>j.bind fun j=>(σ[j]?).join
def vR(js:List (Option Nat))(wi:TI)(g:TG)(tt:TT)(te:TE):TE:=fun σ H Q=>wi σ H fun J H1=>∀l,H1 l=none→∃W:Nat→Nat→St→Hp→Prop,(∃m,W 0 m (slots js σ) (upd H1 l (.lst [])))∧
 ∀i m σ' H',W i m σ' H'→(J.stop i H'∧Q (.ref l) H')∨(J.go i H'∧∃N:St→Hp→Prop,(∀σ' H',N σ' H'→∃m',m' < m∧W (i+1) m' σ' H')∧∀x H2,J.yld i H' x H2→g x σ' H2 fun σ3 H3=>tt σ3 H3 fun b H4=>
  if b=true then te σ3 H4 fun y H5=>∃ys,H5 l=some (.lst ys)∧ys.length < sizeLine∧N σ3 (upd H5 l (.lst (ys++[y])))else N σ3 H4)
section
variable {X:Cx} {elt target iter:Expr} {ifs:List Expr} {scope sc:Scope} {cl:List (Str×Addr)} {N:List Str} {pos:Pos} {wi:TI} {g:TG} {tt:TT} {te:TE} {js:List (Option Nat)}
structure CompOk (X:Cx) (scope sc:Scope) (cl:List (Str×Addr)) (N:List Str) (js:List (Option Nat)):Prop where
 clos:closureFor scope X.env=pure cl
 rel:relabel scope X.env=sc
 nocell:∀y∈scope.names,y.2≠ .cell
 kind:scope.kind=.function
 names:∀y∈scope.names,y.2=.local→scope.names.lookup y.1=some .local
 same:∀x c,cl.lookup x=some c→X.env.cells.lookup x=some c
 has:∀x,(sc.names.lookup x=some .cell∨sc.names.lookup x=some .free)→∃c,cl.lookup x=some c
 len:js.length=N.length
 from_:∀(i j:Nat),js[i]? =some (some j)→∃x,N[i]? =some x∧X.N[j]? =some x∧(sc.names.lookup x=some .cell∨sc.names.lookup x=some .free)∧(X.env.kindOf x=some .cell∨X.env.kindOf x=some .free)
theorem sI{use:Option (Value→Sem Unit)}{Qv:Value→Shared→Prop}(K:CompOk X scope sc cl N js)(hc:X.calm=true)(hi:PI X target iter wi)
  (hgg:∀C s₀ H₀ fp,PG (X.comp sc cl N C s₀ H₀ fp) target g) (htt:∀C s₀ H₀ fp,FB (X.comp sc cl N C s₀ H₀ fp) ifs tt) (hee:∀C s₀ H₀ fp,PE (X.comp sc cl N C s₀ H₀ fp) elt te)
  (hs:∀x,foldedSetIterable iter X.env x=pure x) (pins:List (Addr×Obj)) (s:Shared) (σ:St) (H:Hp) (Q:VK) (I:Inv X pins σ H s) (h:vR js wi g tt te σ H Q)
  (hend:∀(D C:Addr) (H4:Hp) (s5:Shared) (m:Str→Option Value),Inv X pins σ H4 s5→s5.heap.Ns C m→H4 C=none→C≠X.env.locals→C∉X.fs→X.s₀.heap.objs.size≤C→(∀x c,X.env.cells.lookup x=some c→c≠C)→(∀p∈X.pn++pins,p.1≠C)→Q (.ref D) H4→
   compPost (model X.prog X.w) X.A X.xe use Qv (.ref D) C (.ok .next) s5):
  wpAny (model X.prog X.w) X.A (comprehension (.ListComp elt [⟨target,iter,ifs,0⟩] scope pos) scope X.env (firstIterPos [⟨target,iter,ifs,0⟩] pos) (newList []) false (firstIter [⟨target,iter,ifs,0⟩] X.env) use) Qv X.xe s:=by
 refine wpAny_comprehension_free (use:=use) rfl hs K.clos K.kind K.names (eG (hi pins s σ H _ I h) fun v s1 h1=>eG h1 fun itv s2 h2=>?_)
 obtain⟨it,fp,tn,J,H2,e,I2,T,st2,f2,R⟩:=h2
 subst e
 refine wpAny_newObj_type (wpAny_newFunctionEnv K.nocell (by intro y hy;simp at hy) (fun h₁ hns₁ hsb₁=>?_) K.kind)
 dsimp only at hns₁ hsb₁ ⊢
 have I3:Inv X pins σ (upd H2 s2.heap.objs.size (.lst [])) {s2 with heap:=s2.heap.push {cls:=.type "list",dict:=none,data:=.seq ([]:List Value).toArray}}:=
  I2.lnew (t':=s2.toks) (its:=[]) .nil (Nat.zero_le _)
 obtain⟨W,⟨m0,w0⟩,turn⟩:=R s2.heap.objs.size (I2.hok.fresh (fQ _))
 generalize hP:s2.heap.push {cls:=.type "list",dict:=none,data:=.seq ([]:List Value).toArray}=h3 at hns₁ hsb₁ I3 ⊢
 generalize hD:s2.heap.objs.size=D at w0 turn I3 ⊢
 have hsz3:h3.objs.size=D+1:=by rw[←hP,Heap.size_push,hD]
 have old3:∀b o,s2.heap.get? b=some o→h3.get? b=some o:=fun b o e=>by rw[←hP];exact gw _ e
 have old:∀b o,h3.get? b=some o→h₁.get? b=some o:=fun b o e=>hsb₁.extBut b o (gI (gE e)) (gw _ e)
 have fpD:∀b∈fp,b < D:=fun b hb=>by
  obtain⟨o,e,_⟩:=T.obj _ _ st2 b hb
  rw[←hD];exact gE e
 have frD:∀b∈fp,(upd H2 D (.lst [])) b=none:=fun b hb=>by rw[aB (gI (fpD b hb))];exact(f2 b hb).1
 have f3:∀b∈fp,pE X pins (upd H2 D (.lst [])) b:=fun b hb=>⟨frD b hb,(f2 b hb).2⟩
 have Hfresh:∀a,h3.objs.size≤a→(upd H2 D (.lst [])) a=none:=fun a ha=>I3.hok.fresh ha
 have cellC:∀x c,X.env.cells.lookup x=some c→c < h3.objs.size:=fun x c e=>by
  obtain⟨v,q⟩:=I3.cell x c e
  exact q.lt
 have YOk:(X.comp sc cl N h3.objs.size {s2 with heap:=h3} (upd H2 D (.lst [])) fp).Ok:=by
  refine⟨I3.ok.mod,?_,I3.ok.glob,I3.ok.blt,fQ _,fun x y c e1 e2=>I3.ok.inj x y c (K.same x c e1) (K.same y c e2),fun x hx=>K.has x hx,fun x c hf _=>absurd hf (by intro z;cases z),I3.ok.hd,I3.ok.frames,.inl rfl,fun b hb=>⟨?_,fun x c e=>(f2 b hb).2.2.2.2.1 x c (K.same x c e)⟩,
   I3.bs,kb I3.ok.bsz I3.sz,fun b o e hb=>?_,fun b hb hm=>?_,I3.stack,I3.stkFree,I3.tab⟩
  ·rw[←K.rel];exact K.kind
  ·exact gI (by rw[hsz3];exact uB (fpD b hb))
  ·rcases(f2 b hb).2.2.2.1 with z |z
   ·exact I3.ok.noex b o e z
   ·exact absurd (kj (gE (I3.ok.bs b o e).1) z) (Nat.lt_irrefl _)
  ·rcases Zal.mp (I3.stkSub b hm)with z |z
   ·exact(f2 b hb).2.1 z
   ·exact(f2 b hb).2.2.1 z
 have IY:Inv (X.comp sc cl N h3.objs.size {s2 with heap:=h3} (upd H2 D (.lst [])) fp) [] (slots js σ) (upd H2 D (.lst [])) {s2 with heap:=h₁,toks:=s2.toks+([]:List (Str×Value)).length}:=by
  refine⟨YOk,rfl,I3.bare,Un.kept old,⟨_,hns₁,fun i x v e1 e2 e3=>?_⟩,fun x c e=>?_,Hfresh _ (fQ _),fun x c e=>I3.freeC x c (K.same x c e),fun p hp=>absurd (show p∈([]:List (Addr×Obj))from hp) (by simp),I3.hok.kept old,?_⟩
  ·unfold slots at e2
   rw[List.getElem?_map]at e2
   cases ej:js[i]? with
   |none=>rw[ej]at e2;cases e2
   |some jo=>
    rw[ej]at e2
    cases jo with
    |none=>cases e2
    |some j=>
     obtain⟨y,n1,n2,k1,k2⟩:=K.from_ i j ej
     have exy:y=x:=Option.some.inj (n1.symm.trans e1)
     subst exy
     have e2':(σ[j]?).join=some v:=Option.some.inj e2
     have e4:σ[j]? =some (some v):=by
      cases es:σ[j]? with
      |none=>rw[es]at e2';cases e2'
      |some w=>rw[es]at e2';exact congrArg some e2'
     obtain⟨m,_,hl⟩:=I3.loc
     obtain⟨u,ru,lk⟩:=hl j y v n2 e4 (by
      rcases k2 with z |z
      ·exact .inr (.inl z)
      ·exact .inr (.inr z))
     refine⟨u,ru,.inr ⟨k1,?_⟩⟩
     obtain⟨c,hcl⟩:=K.has y k1
     refine⟨c,hcl,?_⟩
     rcases lk with⟨z,_⟩ |⟨_,c',e5,ic⟩
     ·rcases k2 with q |q
      ·rw[q]at z;cases z
      ·rw[q]at z;cases z
     ·have:c'=c:=Option.some.inj (e5.symm.trans (K.same y c hcl))
      subst this
      obtain⟨o,ho,hd⟩:=ic
      exact⟨o,old _ _ ho,hd⟩
  ·obtain⟨v,o,ho,hd⟩:=I3.cell x c (K.same x c e)
   exact⟨v,o,old _ _ ho,hd⟩
  ·unfold slots;rw[fH];exact K.len
 have loop:∀s₃:Shared,s₃={s2 with heap:=h₁,toks:=s2.toks+([]:List (Str×Value)).length}→
   codeAny (model X.prog X.w) X.A (.compLoop (.ListComp elt [⟨target,iter,ifs,0⟩] scope pos) 0 (.ref it) (.ref D) (X.comp sc cl N h3.objs.size {s2 with heap:=h3} (upd H2 D (.lst [])) fp).env)
    (compPost (model X.prog X.w) X.A X.xe use Qv (.ref D) h3.objs.size) s₃:=by
  rintro s₃ rfl
  refine qT (fun n s'=>∃i σ' H',Inv (X.comp sc cl N h3.objs.size {s2 with heap:=h3} (upd H2 D (.lst [])) fp) [] σ' H' s'∧tn i s'.heap∧(∀b∈fp,H' b=none)∧W i n σ' H') ?_ m0
   ⟨0,_,_,IY,T.keep _ _ _ st2 (fun b hb o e=>old b o (old3 b o e)),frD,w0⟩
  rintro n s4 ⟨i,σ4,H4,I4,st4,fr4,w4⟩
  have ff:∀{H':Hp},(∀b∈fp,H' b=none)→∀b∈fp,pE (X.comp sc cl N h3.objs.size {s2 with heap:=h3} (upd H2 D (.lst [])) fp) [] H' b:=fun hn b hb=>
   ⟨hn b hb,(YOk.exf b hb).1,YOk.exfs b hb,.inl hb,(YOk.exf b hb).2,fun p hp=>absurd (show p∈([]:List (Addr×Obj))from hp) (by simp)⟩
  have hg:=hgg h3.objs.size {s2 with heap:=h3} (upd H2 D (.lst [])) fp
  have ht:=htt h3.objs.size {s2 with heap:=h3} (upd H2 D (.lst [])) fp
  have he:=hee h3.objs.size {s2 with heap:=h3} (upd H2 D (.lst [])) fp
  rcases turn i n σ4 H4 w4 with⟨stop,qn⟩ |⟨go,Nx,hN,step⟩
  ·refine eG (T.done (X.comp sc cl N h3.objs.size {s2 with heap:=h3} (upd H2 D (.lst [])) fp) rfl rfl rfl hc i [] s4 σ4 H4 _ I4 (ff fr4) st4 stop) fun r s5 ⟨hr,I5⟩=>?_
   subst hr
   obtain⟨m,hn,_⟩:=I5.loc
   have IX:Inv X pins σ H4 s5:=I3.call' (ch:=fp) I5.os I5.base I5.hok I5.bare fun b hb=>⟨(f3 b hb).2.2.2.1,(f3 b hb).2.1,(f3 b hb).2.2.2.2.1,(f3 b hb).2.2.2.2.2⟩
   exact hend D h3.objs.size H4 s5 m IX hn I5.free (Ne.symm (gI I3.lt)) (I3.nofs (fQ _)) I3.sz (fun x c e=>gI (cellC x c e)) (fun p hp=>gI (gE (I3.pin p hp).1)) qn
  ·refine eG (T.item (X.comp sc cl N h3.objs.size {s2 with heap:=h3} (upd H2 D (.lst [])) fp) rfl rfl rfl hc i [] s4 σ4 H4 _ I4 (ff fr4) st4 go) fun r s5 ⟨u,hr,h5⟩=>?_
   subst hr
   refine eG h5 fun _ s6 ⟨x,H6,I6,r6,y6,st6,fr6⟩=>?_
   have I6':=I6.pinned (ff fr6) (T.obj _ _ st6)
   have back:∀{σ7:St} {H7:Hp} {s7:Shared},Inv (X.comp sc cl N h3.objs.size {s2 with heap:=h3} (upd H2 D (.lst [])) fp) ([]++ma fp s6.heap) σ7 H7 s7→
     Inv (X.comp sc cl N h3.objs.size {s2 with heap:=h3} (upd H2 D (.lst [])) fp) [] σ7 H7 s7∧tn (i+1) s7.heap∧∀b∈fp,H7 b=none:=fun {σ7 H7 s7} I7=>
    ⟨I7.unpinned,T.keep _ _ _ st6 fun b hb o e=>(I7.pin (b,o) (pD _ (pD _ (fT hb e)))).1,fun b hb=>by
     obtain⟨o,e,d⟩:=T.obj _ _ st6 b hb
     exact(I7.pin (b,o) (pD _ (pD _ (fT hb e)))).2.1⟩
   refine eG (hg _ s6 σ4 H6 x u _ I6' r6 (step x H6 y6)) fun _ s7 ⟨σ7,H7,I7,q7⟩=>?_
   refine eG (ht _ s7 σ7 H7 _ I7 q7) fun b s8 ⟨H8,I8,q8⟩=>?_
   cases b with
   |false=>
    obtain⟨m',hm,w8⟩:=hN σ7 H8 q8
    obtain⟨J1,J2,J3⟩:=back I8
    exact⟨m',hm,i+1,σ7,H8,J1,J2,J3,w8⟩
   |true=>
    refine eG (he _ s8 σ7 H8 _ I8 q8) fun yv s9 ⟨y,H9,I9,r9,ys,hl,hz,n9⟩=>?_
    obtain⟨m',hm,w9⟩:=hN _ _ n9
    refine eG (mf _ s9 σ7 H9 (.ref D) [y] (.ref D) [yv] (fun v H'=>v=.non∧H'=upd H9 D (.lst (ys++[y]))) I9 rfl (.cons r9 .nil) ⟨D,ys,y,rfl,rfl,hl,hz,rfl,rfl⟩) fun _ sA ⟨_,HA,IA,_,_,eA⟩=>?_
    subst eA
    obtain⟨J1,J2,J3⟩:=back IA
    exact⟨m',hm,i+1,σ7,_,J1,J2,J3,w9⟩
 rw[K.rel]
 exact codeAny_compStart_list (loop _ rfl) (T.self _ 0 _ _ _ (T.keep _ _ _ st2 (fun b hb o e=>old b o (old3 b o e))) (loop _ rfl))
theorem vS(K:CompOk X scope sc cl N js)(hc:X.calm=true)(hi:PI X target iter wi)
  (hgg:∀C s₀ H₀ fp,PG (X.comp sc cl N C s₀ H₀ fp) target g) (htt:∀C s₀ H₀ fp,FB (X.comp sc cl N C s₀ H₀ fp) ifs tt) (hee:∀C s₀ H₀ fp,PE (X.comp sc cl N C s₀ H₀ fp) elt te)
  (hs:∀x,foldedSetIterable iter X.env x=pure x:=by intro _;rfl):PE X (.ListComp elt [⟨target,iter,ifs,0⟩] scope pos) (vR js wi g tt te):=by
 intro pins s σ H Q I h
 rw[eval_ListComp]
 refine sI (use:=none) K hc hi hgg htt hee hs pins s σ H Q I h fun D C H4 s5 m IX hn fC nL _ sz nc np qn=>?_
 exact⟨m,hn,fun h' hs'=>⟨.ref D,H4,IX.turned (t':=s5.toks) (it:=C) (fun b o hb e=>(hs'.2 b hb).trans e) fC nL (.inr sz) nc np,rfl,qn⟩⟩
theorem Bx{x:Str}{px spos:Pos}{gx:TG}(K:CompOk X scope sc cl N js)(hc:X.calm=true)(hx:PG X (.Name x px) gx)(hi:PI X target iter wi)
  (hgg:∀C s₀ H₀ fp,PG (X.comp sc cl N C s₀ H₀ fp) target g) (htt:∀C s₀ H₀ fp,FB (X.comp sc cl N C s₀ H₀ fp) ifs tt) (hee:∀C s₀ H₀ fp,PE (X.comp sc cl N C s₀ H₀ fp) elt te)
  (hs:∀x,foldedSetIterable iter X.env x=pure x:=by intro _;rfl) (hsw:swapsWith (.ListComp elt [⟨target,iter,ifs,0⟩] scope pos) (some (.Name x px)) spos.line X.env=pure true:=by rfl):
  PS X (.Assign [.Name x px] (.ListComp elt [⟨target,iter,ifs,0⟩] scope pos) spos) (Fc (vR js wi g tt te) gx):=by
 intro pins s σ H D I h
 rw[exec_Assign_Name_used _ _ _ _ hsw]
 refine wpAny_bind (wpAny_standAt (wpAny_bind ?_))
 show wpAny _ _ (comprehension (.ListComp elt [⟨target,iter,ifs,0⟩] scope pos) scope X.env (firstIterPos [⟨target,iter,ifs,0⟩] pos) (newList []) false (firstIter [⟨target,iter,ifs,0⟩] X.env) (some (assign (.Name x px) X.env)) >>= fun _=>pure ()) _ _ _
 refine wpAny_bind (wpAny_mono (sI (use:=some (assign (.Name x px) X.env)) (Qv:=fun _ s'=>∃σ' H',Inv X pins σ' H' s'∧D.nx σ' H') K hc hi hgg htt hee hs pins s σ H _ I h fun Dd C H4 s5 m IX hn fC nL nF sz nc np qn=>?_) (fun _ s' ⟨σ',H',I',q'⟩=>wpAny_pure (wpAny_pure ⟨σ',H',I',q'⟩)) fun _ _ e=>e)
 obtain⟨o,es,ep,ho,hd,r⟩:=hn
 have IP:Inv X ((C,o)::pins) σ H4 s5:=IX.pins_of fun p hp=>(Zal.mp hp).elim (fun z=>by subst z;exact⟨ho,fC,nL,nF,fun v z=>by rw[hd]at z;cases z⟩) fun z=>IX.pin p (pD _ z)
 refine wpAny_mono (hx ((C,o)::pins) s5 σ H4 (.ref Dd) (.ref Dd) D.nx IP rfl qn) (fun _ s6 ⟨σ6,H6,I6,q6⟩=>?_) fun _ _ e=>e
 obtain⟨p1,p2,_⟩:=I6.pin (C,o) (pD _ (io ..))
 have I7:Inv X pins σ6 H6 s6:=I6.pins_of fun p hp=>I6.pin p (pD _ (il _ hp))
 exact⟨m,⟨o,es,ep,p1,hd,r⟩,fun h' hs'=>⟨σ6,H6,I7.turned (t':=s6.toks) (it:=C) (fun b o hb e=>(hs'.2 b hb).trans e) p2 nL (.inr sz) nc np,q6⟩⟩
end
end L2
namespace L2
open PySem PySem.Spec PyProof.Rows
theorem fV{X:Cx}{scope:Scope}{N:List Str}{js:List (Option Nat)}(hf:∀x∈scope.names,x.2≠ .free:=by decide+kernel)(hcell:∀x∈scope.names,x.2≠ .cell:=by decide+kernel)
  (hk:scope.kind=.function:=by rfl) (hn:∀y∈scope.names,y.2=.local→scope.names.lookup y.1=some .local:=by decide+kernel) (hl:js.length=N.length:=by rfl) (hj:∀j∈js,j=none:=by decide):CompOk X scope scope [] N js where
 clos:=closureFor_none hf
 rel:=by
  unfold relabel
  have e:(scope.names.map fun(x:Str×NameKind)=>match x with |(n,k)=>if (k ==.free&&X.env.scope.kind ==.function&&X.env.kindOf n == some .cell)then (n,NameKind.cell)else (n,k))=scope.names:=by
   refine map_eq_self fun x hx=>?_
   obtain⟨n,k⟩:=x
   have:(k == NameKind.free)=false:=by simpa using hf _ hx
   simp[this]
  rw[e]
 nocell:=hcell
 kind:=hk
 names:=hn
 same:=fun x c e=>by simp at e
 has:=fun x h=>by
  rcases h with h |h
  ·exact absurd rfl (hcell _ (PySem.mem_of_lookup h))
  ·exact absurd rfl (hf _ (PySem.mem_of_lookup h))
 len:=hl
 from_:=fun i j h=>by
  have:=hj _ (List.mem_of_getElem? h)
  cases this
structure Own (P:Program) (w:World) (K:Frag) (mg:Str→Option Value) (base:Heap) (k:Nat) (x:Str) (ps:List Str) (sp:Sp):Prop where
 ex:∃(f:Addr) (fd:FuncData),FnOk P w K mg base nX k f fd ps sp∧Binds K fd ps []∧mg x=some (.ref f)∧keepIn K (.ref f)=true
theorem DU{X:Cx}{k:Nat}{x:Str}{ps:List Str}{sp:Sp}{p pos:Pos}{e:Expr}{es:List Expr}{t:TA}(D:Own X.prog X.w X.K X.mg X.base k x ps sp)(hr:Room k X.A)(hg:Gl X x)(ha:PA X (e::es) t)
  (hdb:(x == ("__debug__":Str))=false:=by decide) (he:starEach (e::es) X.env=(false,eval e X.env)::starEach es X.env:=by rfl) (hpl:(backTo pos (starEach es X.env)).any (·.1)=false:=by rfl):
  PE X (.Call (.Name x p) (e::es) [] pos) (yx sp [] E0 t):=by
 obtain⟨f,fd,F,b,m,kp⟩:=D.ex
 exact Bi F hr hg m kp b .nil Fv ha hdb he hpl
structure Def (K:Frag) (mg:Str→Option Value) (x:Str) (st:Stmt) (ps:List Str):Prop where
 ex:∃(f:Addr) (fd:FuncData),Fun K x x st f fd∧mg x=some (.ref f)∧Binds K fd ps []
theorem Def.own{P:Program}{w:World}{K:Frag}{mg:Str→Option Value}{base:Heap}{x:Str}{st:Stmt}{N ps:List Str}{k:Nat}{sp:Sp}(D:Def K mg x st ps)(S:FnScope N ps (af st))
  (len:∀vs H Q E,sp vs H Q E→vs.length=ps.length)
  (hbody:∀(f:Addr) (cdv:Value) (A:Around) (outer:List Env) (s:Shared) (H:Hp) (vs:List V) (Q:VK) (E:XK),Room k (A.deeper (envOfC x (af st) s.heap.objs.size f cdv))→sp vs H Q E→
   ∃t,PSs (gY nX P w K mg base N x (af st) f cdv A outer s H E).nox (aA st) t∧t {nx:=fun _ H'=>Q .non H',rt:=Q} (eO N vs) H):Own P w K mg base (k+1) x ps sp:=by
 obtain⟨f,fd,F,m,b⟩:=D.ex
 exact⟨f,fd,F.ok S len (hbody f),b,m,F.kp⟩
theorem cC{K:Frag}{h:Heap}{mg:Str→Option Value}{x:Str}{st:Stmt}{ps:List Str}{f:Addr}{oc:Value}{od an:Option Addr}{osl:Array (Option Value)}{kV doc pm cdv ct:Value}(X:K.In h)(G:h.Ns mainGlobals mg)
  (a:nsIn K mainGlobals x=some (some (.ref f))) (l:K.lookup f=some ⟨oc,od,.func (fnOf x x (aI st) (aA st) (af st) .none kV doc pm an cdv ct),osl⟩)
  (c:codeIn K cdv x=true) (k:keepIn K (.ref f)=true)
  (b:∀(kV doc pm:Value) (an:Option Addr) (cdv ct:Value) (us:List Value),us.length=ps.length→bindArgs (fnOf x x (aI st) (aA st) (af st) .none kV doc pm an cdv ct) ⟨us,[]⟩=pure (ps.zip us)):Def K mg x st ps:=
 ⟨f,_,uL l c k,mg_of X G a,(uL (st:=st) l c k).binds b⟩
end L2
namespace Nh
open PySem L2
section
variable {α β:Type} {F:α→β→Prop}
theorem jV:∀{a:List α} {b:List β} {c:List α} {d:List β},Paired F a b→Paired F c d→Paired F (a++c) (b++d)
 |_,_,_,_,.nil,s=>s
 |_,_,_,_,.cons r t,s=>.cons r (jV t s)
theorem vT:∀{a:List α} {b:List β} (n:Nat),Paired F a b→Paired F (a.take n) (b.take n)
 |_,_,0,_=>.nil
 |_,_,_+1,.nil=>.nil
 |_,_,n+1,.cons r t=>.cons r (vT n t)
theorem vU:∀{a:List α} {b:List β} (n:Nat),Paired F a b→Paired F (a.drop n) (b.drop n)
 |_,_,0,r=>r
 |_,_,_+1,.nil=>.nil
 |_,_,n+1,.cons _ t=>vU n t
theorem kF:∀{a:List α} {b:List β},Paired F a b→Paired F a.reverse b.reverse
 |_,_,.nil=>.nil
 |_,_,.cons r t=>by
  rw[List.reverse_cons,List.reverse_cons]
  exact jV (kF t) (.cons r .nil)
theorem vV:∀{a:List α} {b:List β} {i:Nat} {y:β},Paired F a b→b[i]? =some y→∃x,a[i]? =some x∧F x y
 |_,_,_,_,.nil,e=>by simp at e
 |_,_,0,_,.cons r _,e=>by simp at e;subst e;exact⟨_,rfl,r⟩
 |_,_,i+1,x,.cons _ t,e=>by
  obtain⟨u,h1,h2⟩:=vV (i:=i) (y:=x) t (by simpa using e)
  exact⟨u,by simpa using h1,h2⟩
theorem yE{a:List α}{b:List β}(h:Paired F a b):∀k:Nat,Paired F (List.replicate k a).flatten (List.replicate k b).flatten
 | 0=>.nil
 |k+1=>by
  rw[List.replicate_succ,List.replicate_succ,List.flatten_cons,List.flatten_cons]
  exact jV h (yE h k)
end
abbrev Pc:=Nat×Int
def tv(p:Pc):List V:=[.str ⟨#[p.1]⟩,.int p.2]
def GS(H:Hp)(v:V)(p:Pc):Prop:=∃t,v=.ref t∧H t=some (.tup (tv p))
abbrev PAll(H:Hp):List V→List Pc→Prop:=Paired (GS H)
section
variable {H H':Hp} {l:Addr} {xs ys:List V} {c:List Pc}
theorem PAll.same(s:Same H H')(h:PAll H xs c):PAll H' xs c:=Paired.mapP h fun _ _ ⟨t,e,q⟩=>⟨t,e,s _ _ q⟩
theorem PAll.len(h:PAll H xs c):xs.length=c.length:=Paired.length h
end
def Cord(H:Hp)(a:Addr)(c:List Pc):Prop:=∃xs,H a=some (.lst xs)∧PAll H xs c
section
variable {H H':Hp} {a:Addr} {c d:List Pc}
theorem Cord.same(s:Same H H')(h:Cord H a c):Cord H' a c:=let ⟨xs,e,p⟩:=h;⟨xs,s _ _ e,p.same s⟩
end
def aY(p:Pc):PyData:=.tuple [.str ⟨#[p.1]⟩,.int p.2]
def km(c:List Pc):PyData:=.list (c.map aY)
def NailsOk(c:List Pc):Prop:=∀p∈c,p.1 < 128
theorem p_{K:Frag}{H:Hp}:∀{xs:List V} {c:List Pc},PAll H xs c→DAll K H xs (c.map aY)
 |_,_,.nil=>.nil
 |_,_,.cons ⟨t,e,q⟩ r=>by
  subst e
  exact .cons (.tup (SqT.of q) (.cons (.str _) (.cons (.int _) .nil))) (p_ r)
theorem Cord.data{K:Frag}{H:Hp}{a:Addr}{c:List Pc}(h:Cord H a c):DOf K H (.ref a) (km c):=
 let ⟨_,e,p⟩:=h; .lst (SqL.of e) (p_ p)
theorem FC{p:Pc}(h:p.1 < 128):(aY p).canLay0=true:=by
 have:p.1 < 1114112:=by omega
 simp[aY,PyData.canLay0,PyData.canLayAll0,PyData.strOk,this]
theorem sJ:∀{c:List Pc},NailsOk c→PyData.canLayAll0 (c.map aY)=true∧PyData.depthAll (c.map aY)≤1
 |[],_=>by simp[PyData.canLayAll0,PyData.depthAll]
 |p::c,h=>by
  have ih:=sJ (c:=c) fun q hq=>h q (il _ hq)
  have h1:=FC (h p (io ..))
  have h2:=ih.2
  simp only[dN,PyData.canLayAll0,PyData.depthAll,h1,ih.1,Bool.and_self,true_and]
  have h3:(aY p).depth=1:=by simp[aY,PyData.depth,PyData.depthAll]
  omega
theorem mV{c:List Pc}(h:NailsOk c):SeqAt.shaped (km c)=true:=by
 have q:=sJ h
 have q2:=q.2
 unfold SeqAt.shaped
 simp only[km,PyData.canLay0,PyData.depth,q.1,Bool.true_and]
 exact decide_eq_true (by omega)
theorem DV(p q:Pc):PyData.eqv (aY p) (aY q)=decide (p=q):=by
 obtain⟨n,a⟩:=p
 obtain⟨m,b⟩:=q
 simp only[aY,PyData.eqv,PyData.eqvAll,Bool.and_true]
 rw[Bool.eq_iff_iff]
 simp
theorem qa:∀c d:List Pc,PyData.eqvAll (c.map aY) (d.map aY)=decide (c=d)
 |[],[]=>by simp[PyData.eqvAll]
 |[],_::_=>by simp[PyData.eqvAll]
 |_::_,[]=>by simp[PyData.eqvAll]
 |p::c,q::d=>by
  simp only[dN,PyData.eqvAll,DV,qa c d]
  rw[Bool.eq_iff_iff]
  simp
theorem yF(c d:List Pc):PyData.eqv (km c) (km d)=decide (c=d):=by
 simp only[km,PyData.eqv,qa]
end Nh
namespace PL
open PySem PySem.Spec PyProof.Rows L2 Nh
def GT:iC→PyData
 |.inl i=>.int i
 |.inr x=>.str x
def gG(a C:Addr):Heap→Prop:=fun h=>∃o,h.get? a=some o∧o.cls=.ref C
mutual
inductive Rp (K:Frag) (H:Hp):V→PyData→Prop
 |non:Rp K H .non .none
 |bl (b:Bool):Rp K H (.bl b) (.bool b)
 |int (i:Int):Rp K H (.int i) (.int i)
 |str (x:Str):Rp K H (.str x) (.str x)
 |lst {a:Addr} {xs:List V} {ds:List PyData}:SqL K H a xs→RpA K H xs ds→Rp K H (.ref a) (.list ds)
 |tup {a:Addr} {xs:List V} {ds:List PyData}:SqT K H a xs→RpA K H xs ds→Rp K H (.ref a) (.tuple ds)
 |dct {a:Addr} {us:List (iC×V)} {kvs:List (PyData×PyData)}:Rd H a (.dK us)→RpK K H us kvs→Rp K H (.ref a) (.dict kvs)
 |exc {a C:Addr} {n:Str} {o:Obj}:H a=some (.frz o (.ext (gG a C)))→nsIn K mainGlobals n=some (some (.ref C))→Rp K H (.ref a) (.dict [(.none,.str n)])
inductive RpA (K:Frag) (H:Hp):List V→List PyData→Prop
 |nil:RpA K H [] []
 |cons {x:V} {xs:List V} {d:PyData} {ds:List PyData}:Rp K H x d→RpA K H xs ds→RpA K H (x::xs) (d::ds)
inductive RpK (K:Frag) (H:Hp):List (iC×V)→List (PyData×PyData)→Prop
 |nil:RpK K H [] []
 |cons {k:iC} {x:V} {us:List (iC×V)} {d:PyData} {kvs:List (PyData×PyData)}:Rp K H x d→RpK K H us kvs→RpK K H ((k,x)::us) ((GT k,d)::kvs)
end
mutual
def cT:PyData→Bool
 |.none=>true
 |.bool _=>true
 |.int _=>true
 |.str _=>true
 |.list _=>false
 |.tuple xs=>bE xs
 |.dict _=>false
def bE:List PyData→Bool
 |[]=>true
 |d::ds=>cT d&&bE ds
end
def CU:HO→Bool
 |.tup _=>true
 |.frz _ _=>true
 |_=>false
def tups(H:Hp):Hp:=fun b=>(H b).filter CU
theorem jW(H:Hp):Same (tups H) H:=fun b o h=>(Option.filter_eq_some_iff.mp h).1
theorem lm{H:Hp}{b:Addr}{o:HO}(h:H b=some o)(c:CU o=true):tups H b=some o:=Option.filter_eq_some_iff.mpr ⟨h,c⟩
theorem nZ{H:Hp}{l:Addr}{xs ys:List V}(h:H l=some (.lst xs)):tups (upd H l (.lst ys))=tups H:=by
 funext b
 unfold tups
 by_cases e:b=l
 ·subst e
  rw[upd_same,h]
  rfl
 ·rw[aB e]
section
variable {K:Frag} {H H':Hp}
theorem sK{a:Addr}{xs:List V}(h:SqT K H a xs):SqT K (tups H) a xs:=by
 rcases h with(h |⟨o,h⟩) |h
 ·exact .inl (.inl (lm h rfl))
 ·exact .inl (.inr ⟨o,lm h rfl⟩)
 ·exact .inr h
theorem qU{a:Addr}{u:HO}(s:Same H H')(h:Rd H a u):Rd H' a u:=by
 rcases h with h |⟨o,h⟩
 ·exact .inl (s _ _ h)
 ·exact .inr ⟨o,s _ _ h⟩
theorem Rp.same(s:Same H H'){v:V}{d:PyData}(h:Rp K H v d):Rp K H' v d:=Rp.rec (motive_1:=fun v d _=>Rp K H' v d) (motive_2:=fun v d _=>RpA K H' v d) (motive_3:=fun v d _=>RpK K H' v d) .non .bl .int .str (fun h _ r=>.lst (s.seq h) r) (fun h _ r=>.tup (s.tup h) r) (fun h _ r=>.dct (qU s h) r) (fun h r=>.exc (s _ _ h) r) .nil (fun _ _ a b=>.cons a b) .nil (fun _ _ a b=>.cons a b) h
theorem RpA.same(s:Same H H'){v:List V}{d:List PyData}(h:RpA K H v d):RpA K H' v d:=RpA.rec (motive_1:=fun v d _=>Rp K H' v d) (motive_2:=fun v d _=>RpA K H' v d) (motive_3:=fun v d _=>RpK K H' v d) .non .bl .int .str (fun h _ r=>.lst (s.seq h) r) (fun h _ r=>.tup (s.tup h) r) (fun h _ r=>.dct (qU s h) r) (fun h r=>.exc (s _ _ h) r) .nil (fun _ _ a b=>.cons a b) .nil (fun _ _ a b=>.cons a b) h
theorem RpK.same(s:Same H H'){v:List (iC×V)}{d:List (PyData×PyData)}(h:RpK K H v d):RpK K H' v d:=RpK.rec (motive_1:=fun v d _=>Rp K H' v d) (motive_2:=fun v d _=>RpA K H' v d) (motive_3:=fun v d _=>RpK K H' v d) .non .bl .int .str (fun h _ r=>.lst (s.seq h) r) (fun h _ r=>.tup (s.tup h) r) (fun h _ r=>.dct (qU s h) r) (fun h r=>.exc (s _ _ h) r) .nil (fun _ _ a b=>.cons a b) .nil (fun _ _ a b=>.cons a b) h
theorem Rp.cold{v:V}{d:PyData}(h:Rp K H v d)(e:cT d=true):Rp K (tups H) v d:=Rp.rec (motive_1:=fun v d _=>cT d=true→Rp K (tups H) v d) (motive_2:=fun v d _=>bE d=true→RpA K (tups H) v d) (motive_3:=fun _ _ _=>True) (fun _=>.non) (fun b _=>.bl b) (fun i _=>.int i) (fun x _=>.str x) (fun _ _ _ e=>nomatch e) (fun h _ r e=>.tup (sK h) (r e)) (fun _ _ _ e=>nomatch e) (fun _ _ e=>nomatch e) (fun _=>.nil) (fun _ _ a b e=>.cons (a (Bool.and_eq_true_iff.mp e).1) (b (Bool.and_eq_true_iff.mp e).2)) trivial (fun _ _ _ _=>trivial) h e
theorem RpA.cold{v:List V}{d:List PyData}(h:RpA K H v d)(e:bE d=true):RpA K (tups H) v d:=RpA.rec (motive_1:=fun v d _=>cT d=true→Rp K (tups H) v d) (motive_2:=fun v d _=>bE d=true→RpA K (tups H) v d) (motive_3:=fun _ _ _=>True) (fun _=>.non) (fun b _=>.bl b) (fun i _=>.int i) (fun x _=>.str x) (fun _ _ _ e=>nomatch e) (fun h _ r e=>.tup (sK h) (r e)) (fun _ _ _ e=>nomatch e) (fun _ _ e=>nomatch e) (fun _=>.nil) (fun _ _ a b e=>.cons (a (Bool.and_eq_true_iff.mp e).1) (b (Bool.and_eq_true_iff.mp e).2)) trivial (fun _ _ _ _=>trivial) h e
theorem Rp.dof'{v:V}{d:PyData}(h:Rp K H v d)(e:d.canLay0=true):DOf K H v d:=Rp.rec (motive_1:=fun v d _=>d.canLay0=true→DOf K H v d) (motive_2:=fun v d _=>PyData.canLayAll0 d=true→DAll K H v d) (motive_3:=fun _ _ _=>True) (fun _=>.non) (fun b _=>.bl b) (fun i _=>.int i) (fun x _=>.str x) (fun h _ r e=>.lst h (r e)) (fun h _ r e=>.tup h (r e)) (fun _ _ _ e=>nomatch e) (fun _ _ e=>nomatch e) (fun _=>.nil) (fun _ _ a b e=>.cons (a (Bool.and_eq_true_iff.mp e).1) (b (Bool.and_eq_true_iff.mp e).2)) trivial (fun _ _ _ _=>trivial) h e
theorem Rp.dof{v:V}{d:PyData}(h:Rp K H v d)(e:SeqAt.shaped d=true):DOf K H v d:=h.dof' (SeqAt.canLay_of_shaped e)
theorem RpA.pr{vs:List V}{ds:List PyData}(h:RpA K H vs ds):Paired (Rp K H) vs ds:=RpA.rec (motive_1:=fun _ _ _=>True) (motive_2:=fun v d _=>Paired (Rp K H) v d) (motive_3:=fun _ _ _=>True) trivial (fun _=>trivial) (fun _=>trivial) (fun _=>trivial) (fun _ _ _=>trivial) (fun _ _ _=>trivial) (fun _ _ _=>trivial) (fun _ _=>trivial) .nil (fun h _ _ b=>.cons h b) trivial (fun _ _ _ _=>trivial) h
theorem RpA.of{vs:List V}{ds:List PyData}(h:Paired (Rp K H) vs ds):RpA K H vs ds:=by
 induction h with
 |nil=>exact .nil
 |cons a _ b=>exact .cons a b
theorem RpA.len{vs:List V}{ds:List PyData}(h:RpA K H vs ds):vs.length=ds.length:=Paired.length h.pr
theorem RpA.append{vs us:List V}{ds es:List PyData}(h:RpA K H vs ds)(k:RpA K H us es):RpA K H (vs++us) (ds++es):=.of (jV h.pr k.pr)
theorem RpA.take{vs:List V}{ds:List PyData}(n:Nat)(h:RpA K H vs ds):RpA K H (vs.take n) (ds.take n):=.of (vT n h.pr)
theorem RpA.drop{vs:List V}{ds:List PyData}(n:Nat)(h:RpA K H vs ds):RpA K H (vs.drop n) (ds.drop n):=.of (vU n h.pr)
theorem RpA.rev{vs:List V}{ds:List PyData}(h:RpA K H vs ds):RpA K H vs.reverse ds.reverse:=.of (kF h.pr)
theorem RpA.rep{vs:List V}{ds:List PyData}(n:Nat)(h:RpA K H vs ds):RpA K H (List.replicate n vs).flatten (List.replicate n ds).flatten:=.of (yE h.pr n)
theorem RpA.get{vs:List V}{ds:List PyData}{i:Nat}{d:PyData}(h:RpA K H vs ds)(e:ds[i]? =some d):∃v,vs[i]? =some v∧Rp K H v d:=vV h.pr e
theorem RpA.set:∀{vs:List V} {ds:List PyData} {v:V} {d:PyData} (i:Nat),RpA K H vs ds→Rp K H v d→RpA K H (vs.set i v) (ds.set i d)
 |_,_,_,_,_,.nil,_=>.nil
 |_,_,_,_,0,.cons _ r,h=>.cons h r
 |_,_,_,_,i+1,.cons q r,h=>.cons q (RpA.set i r h)
theorem RpA.dropLast{vs:List V}{ds:List PyData}(h:RpA K H vs ds):RpA K H vs.dropLast ds.dropLast:=by
 rw[List.dropLast_eq_take,List.dropLast_eq_take,h.len]
 exact h.take _
theorem RpA.snoc{vs:List V}{ds:List PyData}{v:V}{d:PyData}(h:RpA K H vs ds)(k:Rp K H v d):RpA K H (vs++[v]) (ds++[d]):=h.append (.cons k .nil)
end
inductive Pt where
 |fl (d:PyData) |ol (ds:List PyData)
def Pt.val:Pt→PyData
 |.fl d=>d
 |.ol ds=>.list ds
inductive Sl where
 /-- nothing is known -/
 |no
 /-- never written again -/
 |sh (d:PyData)
 /-- a list of one's own -/
 |ow (ds:List PyData)
 /-- a dict of one's own,its values lists of one's own -/
 |od (kvs:List (iC×List PyData))
 /-- a tuple with lists of one's own -/
 |tx (ps:List Pt)
 /-- (a part of an expression) the value of a name -/
 |al (i:Nat)
 /-- (a part of an expression) as it stands just now -/
 |br (d:PyData)
def PtsOk(K:Frag)(F H:Hp):List V→List Pt→List Addr→Prop
 |[],[],A=>A=[]
 |v::vs,.fl d::ps,A=>Rp K F v d∧PtsOk K F H vs ps A
 |v::vs,.ol ds::ps,A=>∃l us A',v=.ref l∧A=l::A'∧H l=some (.lst us)∧RpA K F us ds∧PtsOk K F H vs ps A'
 |_,_,_=>False
def DlOk(K:Frag)(F H:Hp):List (iC×V)→List (iC×List PyData)→List Addr→Prop
 |[],[],A=>A=[]
 |p::us,q::kvs,A=>∃l vs A',p=(q.1,.ref l)∧A=l::A'∧H l=some (.lst vs)∧RpA K F vs q.2∧DlOk K F H us kvs A'
 |_,_,_=>False
def SlOk(K:Frag)(F H:Hp)(σ:L2.St)(o:Option V):Sl→List Addr→Prop
 |.no,A=>A=[]
 |.sh d,A=>A=[]∧∃v,o=some v∧Rp K F v d
 |.ow ds,A=>∃l vs,o=some (.ref l)∧A=[l]∧H l=some (.lst vs)∧RpA K F vs ds
 |.od kvs,A=>∃l us A',o=some (.ref l)∧A=l::A'∧H l=some (.dK us)∧DlOk K F H us kvs A'
 |.tx ps,A=>∃t vs,o=some (.ref t)∧F t=some (.tup vs)∧PtsOk K F H vs ps A
 |.al i,A=>A=[]∧∃v,o=some v∧σ[i]? =some (some v)
 |.br d,A=>A=[]∧∃v,o=some v∧Rp K H v d
def Sl.isBr:Sl→Bool
 |.br _=>true
 |_=>false
def Sl.isAl:Sl→Bool
 |.al _=>true
 |.br _=>true
 |_=>false
section
variable {K:Frag} {F F' H H':Hp} {σ σ':L2.St}
theorem PtsOk.stay(s:Same F F'):∀{vs:List V} {ps:List Pt} {A:List Addr},(∀b∈A,H' b=H b)→PtsOk K F H vs ps A→PtsOk K F' H' vs ps A
 |[],[],A,_,h=>h
 |v::vs,.fl d::ps,A,e,h=>⟨h.1.same s,PtsOk.stay s e h.2⟩
 |v::vs,.ol ds::ps,A,e,h=>by
  obtain⟨l,us,A',rfl,rfl,hl,hr,q⟩:=h
  exact⟨l,us,A',rfl,rfl,(e l (io ..)).trans hl,hr.same s,q.stay s fun b hb=>e b (il _ hb)⟩
 |[],_::_,_,_,h=>False.elim h
 |_::_,[],_,_,h=>False.elim h
theorem DlOk.stay(s:Same F F'):∀{us:List (iC×V)} {kvs:List (iC×List PyData)} {A:List Addr},(∀b∈A,H' b=H b)→DlOk K F H us kvs A→DlOk K F' H' us kvs A
 |[],[],A,_,h=>h
 |p::us,q::kvs,A,e,h=>by
  obtain⟨l,vs,A',rfl,rfl,hl,hr,k⟩:=h
  exact⟨l,vs,A',rfl,rfl,(e l (io ..)).trans hl,hr.same s,k.stay s fun b hb=>e b (il _ hb)⟩
 |[],_::_,_,_,h=>False.elim h
 |_::_,[],_,_,h=>False.elim h
theorem DlOk.some:∀{us:List (iC×V)} {kvs:List (iC×List PyData)} {A:List Addr},DlOk K F H us kvs A→∀a∈A,∃vs,H a=some (.lst vs)
 |[],[],A,h,a,ha=>by rw[show A=[]from h]at ha;cases ha
 |p::us,q::kvs,A,h,a,ha=>by
  obtain⟨l,vs,A',rfl,rfl,hl,hr,k⟩:=h
  rcases Zal.mp ha with e |e
  ·subst e;exact⟨vs,hl⟩
  ·exact k.some a e
 |[],_::_,_,h,_,_=>False.elim h
 |_::_,[],_,h,_,_=>False.elim h
theorem PtsOk.some:∀{vs:List V} {ps:List Pt} {A:List Addr},PtsOk K F H vs ps A→∀a∈A,∃us,H a=some (.lst us)
 |[],[],A,h,a,ha=>by rw[show A=[]from h]at ha;cases ha
 |v::vs,.fl d::ps,A,h,a,ha=>PtsOk.some h.2 a ha
 |v::vs,.ol ds::ps,A,h,a,ha=>by
  obtain⟨l,us,A',rfl,rfl,hl,hr,q⟩:=h
  rcases Zal.mp ha with e |e
  ·subst e;exact⟨us,hl⟩
  ·exact q.some a e
 |[],_::_,_,h,_,_=>False.elim h
 |_::_,[],_,h,_,_=>False.elim h
theorem PtsOk.rp(s:Same F H):∀{vs:List V} {ps:List Pt} {A:List Addr},PtsOk K F H vs ps A→RpA K H vs (ps.map Pt.val)
 |[],[],A,_=>.nil
 |v::vs,.fl d::ps,A,h=>.cons (h.1.same s) (PtsOk.rp s h.2)
 |v::vs,.ol ds::ps,A,h=>by
  obtain⟨l,us,A',rfl,rfl,hl,hr,q⟩:=h
  exact .cons (.lst (SqL.of hl) (hr.same s)) (q.rp s)
 |[],_::_,_,h=>False.elim h
 |_::_,[],_,h=>False.elim h
theorem SlOk.stay{o:Option V}{s:Sl}{A:List Addr}(hF:Same F F')(e:∀b∈A,H' b=H b)(hb:s.isBr=true→Same H H')(h:SlOk K F H σ o s A):SlOk K F' H' σ o s A:=by
 cases s with
 |no=>exact h
 |sh d=>obtain⟨rfl,v,rfl,r⟩:=h;exact⟨rfl,v,rfl,r.same hF⟩
 |ow ds=>obtain⟨l,vs,rfl,rfl,hl,r⟩:=h;exact⟨l,vs,rfl,rfl,(e l (by simp)).trans hl,r.same hF⟩
 |od kvs=>obtain⟨l,us,A',rfl,rfl,hl,r⟩:=h;exact⟨l,us,A',rfl,rfl,(e l (by simp)).trans hl,r.stay hF fun b hb=>e b (il _ hb)⟩
 |tx ps=>obtain⟨t,vs,rfl,ht,r⟩:=h;exact⟨t,vs,rfl,hF _ _ ht,r.stay hF e⟩
 |al i=>exact h
 |br d=>obtain⟨rfl,v,rfl,r⟩:=h;exact⟨rfl,v,rfl,r.same (hb rfl)⟩
theorem SlOk.mut{o:Option V}{s:Sl}{A:List Addr}(h:SlOk K F H σ o s A):∀a∈A,(∃us,H a=some (.lst us))∨∃us,H a=some (.dK us):=by
 cases s with
 |no=>intro a ha;rw[show A=[]from h]at ha;cases ha
 |sh d=>obtain⟨rfl,_⟩:=h;intro a ha;cases ha
 |ow ds=>obtain⟨l,vs,rfl,rfl,hl,r⟩:=h;intro a ha;rw[Zab.mp ha];exact .inl ⟨_,hl⟩
 |od kvs=>
  obtain⟨l,vs,A',rfl,rfl,hl,r⟩:=h
  intro a ha
  rcases Zal.mp ha with z |z
  ·rw[z];exact .inr ⟨_,hl⟩
  ·exact .inl (r.some a z)
 |tx ps=>obtain⟨t,vs,rfl,ht,r⟩:=h;exact fun a ha=>.inl (r.some a ha)
 |al i=>obtain⟨rfl,_⟩:=h;intro a ha;cases ha
 |br d=>obtain⟨rfl,_⟩:=h;intro a ha;cases ha
end
inductive SAll (P:Option V→Sl→List Addr→Prop):List (Option V)→List Sl→List Addr→Prop
 |nil:SAll P [] [] []
 |cons {o:Option V} {s:Sl} {A:List Addr} {os:List (Option V)} {ss:List Sl} {B:List Addr}:P o s A→SAll P os ss B→SAll P (o::os) (s::ss) (A++B)
section
variable {P P':Option V→Sl→List Addr→Prop}
theorem SAll.len{os:List (Option V)}{ss:List Sl}{A:List Addr}(h:SAll P os ss A):os.length=ss.length:=by
 induction h with
 |nil=>rfl
 |cons _ _ b=>exact congrArg (· +1) b
theorem SAll.mono{os:List (Option V)}{ss:List Sl}{A:List Addr}(h:SAll P os ss A):(∀o s B,s∈ss→(∀b∈B,b∈A)→P o s B→P' o s B)→SAll P' os ss A:=by
 induction h with
 |nil=>exact fun _=>.nil
 |cons h _ r=>exact fun f=>.cons (f _ _ _ (io ..) (fun b hb=>List.mem_append_left _ hb) h) (r fun o s B hs hB q=>f o s B (il _ hs) (fun b hb=>pD _ (hB b hb)) q)
theorem SAll.all{R:Addr→Prop}(hR:∀o s B,P o s B→∀b∈B,R b){os:List (Option V)}{ss:List Sl}{A:List Addr}(h:SAll P os ss A):∀a∈A,R a:=by
 induction h with
 |nil=>exact fun _ ha=>nomatch ha
 |cons h _ r=>exact fun a ha=>(Zan.mp ha).elim (hR _ _ _ h a) (r a)
theorem SAll.at:∀{os:List (Option V)} {ss:List Sl} {A:List Addr} {k:Nat} {s:Sl},SAll P os ss A→ss[k]? =some s→
  ∃o A0 A1 A2,A=A0++(A1++A2)∧os[k]? =some o∧P o s A1∧∀(P':Option V→Sl→List Addr→Prop) (o':Option V) (s':Sl) (A1':List Addr),P' o' s' A1'→
   (∀o s B,s∈ss→(∀b∈B,b∈A0∨b∈A2)→P o s B→P' o s B)→SAll P' (os.set k o') (ss.set k s') (A0++(A1'++A2))
 |_,_,_,_,_,.nil,e=>by simp at e
 |_,_,_,0,s,.cons (o:=o) (A:=A) (B:=B) h r,e=>by
  simp at e;subst e
  refine⟨o,[],A,B,by simp,rfl,h,fun P' o' s' A1' h' f=>?_⟩
  have z:SAll P' _ _ (A1'++B):=.cons h' (r.mono (P':=P') fun o s B hs hB q=>f o s B (il _ hs) (fun b hb=>.inr (hB b hb)) q)
  exact z
 |_,_,_,k+1,s,.cons (o:=o) (A:=A) (B:=B) h r,e=>by
  obtain⟨o2,A0,A1,A2,eA,eo,hp,f⟩:=r.at (k:=k) (s:=s) (by simpa using e)
  subst eA
  refine⟨o2,A++A0,A1,A2,by simp,by simpa using eo,hp,fun P' o' s' A1' h' g=>?_⟩
  have z:=f P' o' s' A1' h' fun o s B hs hB q=>g o s B (il _ hs) (fun b hb=>(hB b hb).imp (fun x=>pD _ x) id) q
  rw[pA]
  exact .cons (g _ _ _ (io ..) (fun b hb=>.inl (List.mem_append_left _ hb)) h) z
end
end PL
namespace PL
open PySem L2 Nh
abbrev Sg:=L2.St
structure FrF (K:Frag) (B F:Hp) (A:List Addr) (σ:Sg) (H:Hp) (E:List Sl) (xs:List V) (Xs:List Sl):Prop where
 bf:Same B F
 fh:Same F H
 tf:Same (tups H) F
 sl:SAll (SlOk K F H σ) (xs.map some++σ) (Xs++E) A
 nd:A.Nodup
 fr:∀a∈A,F a=none
 len:xs.length=Xs.length
 pl:∀s∈E,s.isAl=false
def Frm(K:Frag)(B:Hp)(σ:Sg)(H:Hp)(E:List Sl)(xs:List V)(Xs:List Sl):Prop:=∃F A,FrF K B F A σ H E xs Xs
def Sl.val:Sl→Option PyData
 |.sh d=>some d
 |.ow ds=>some (.list ds)
 |.tx ps=>some (.tuple (ps.map Pt.val))
 |.br d=>some d
 |_=>none
def look(E:List Sl):Sl→Option PyData
 |.al i=>(E[i]?).bind Sl.val
 |s=>s.val
def fR:Sl→Bool
 |.br _=>true
 |.tx _=>true
 |_=>false
def gZ(E:List Sl):Sl→Bool
 |.al i=>(E[i]?).any fR
 |s=>fR s
def RpF(K:Frag)(F H:Hp)(v:V):PyData→Prop
 |.list ds=>∃a vs,v=.ref a∧SqL K H a vs∧RpA K F vs ds
 |d=>Rp K F v d
def sL(F H:Hp)(A:List Addr):Hp:=fun b=>if b∈A then H b else F b
theorem qV{F H:Hp}{A:List Addr}{b:Addr}(h:b∈A):sL F H A b=H b:=if_pos h
theorem n5{F H:Hp}{A:List Addr}{b:Addr}(h:b∉A):sL F H A b=F b:=if_neg h
section
variable {K:Frag} {B F:Hp} {A:List Addr} {σ:Sg} {H:Hp} {E:List Sl} {xs:List V} {Xs:List Sl} {v:V} {s:Sl} {d:PyData}
theorem RpF.of(h:Rp K F v d)(s:Same F H):RpF K F H v d:=by
 cases h with
 |lst h r=>exact⟨_,_,rfl,s.seq h,r⟩
 |non=>exact .non
 |bl b=>exact .bl b
 |int i=>exact .int i
 |str x=>exact .str x
 |tup h r=>exact .tup h r
 |dct h r=>exact .dct h r
 |exc h r=>exact .exc h r
theorem SlOk.val{o:Option V}{A1:List Addr}(h:SlOk K F H σ o s A1)(hF:Same F H)(e:s.val=some d):∃v,o=some v∧Rp K H v d∧(fR s=false→RpF K F H v d):=by
 cases s with
 |no=>cases e
 |sh d'=>
  obtain⟨rfl,v,rfl,r⟩:=h
  cases e
  exact⟨v,rfl,r.same hF,fun _=>RpF.of r hF⟩
 |ow ds=>
  obtain⟨l,vs,rfl,rfl,hl,r⟩:=h
  cases e
  exact⟨_,rfl,.lst (SqL.of hl) (r.same hF),fun _=>⟨_,_,rfl,SqL.of hl,r⟩⟩
 |od kvs=>cases e
 |tx ps=>
  obtain⟨t,vs,rfl,ht,r⟩:=h
  cases e
  exact⟨_,rfl,.tup (SqT.of (hF _ _ ht)) (r.rp hF),fun z=>by cases z⟩
 |al i=>cases e
 |br d'=>
  obtain⟨rfl,v,rfl,r⟩:=h
  cases e
  exact⟨v,rfl,r,fun z=>by cases z⟩
theorem FrF.slen(h:FrF K B F A σ H E xs Xs):σ.length=E.length:=by
 have e:=h.sl.len
 have:=h.len
 simp only[vH,fH]at e
 omega
theorem FrF.var{i:Nat}(h:FrF K B F A σ H E xs Xs)(e:E[i]? =some s):∃o A1,σ[i]? =some o∧SlOk K F H σ o s A1:=by
 obtain⟨o,A0,A1,A2,eA,eo,hp,_⟩:=h.sl.at (k:=Xs.length+i) (s:=s) (by rw[AK (by omega)];simpa using e)
 rw[AK (by rw[fH,h.len];omega),fH,h.len,Zb]at eo
 exact⟨o,A1,eo,hp⟩
theorem FrF.ext{k:Nat}(h:FrF K B F A σ H E xs Xs)(e:Xs[k]? =some s):∃v A1,xs[k]? =some v∧SlOk K F H σ (some v) s A1:=by
 have hk:k < Xs.length:=(Zba.mp e).1
 obtain⟨o,A0,A1,A2,eA,eo,hp,_⟩:=h.sl.at (k:=k) (s:=s) (by rw[List.getElem?_append_left hk];exact e)
 rw[List.getElem?_append_left (by rw[fH,h.len];omega),List.getElem?_map]at eo
 cases q:xs[k]? with
 |none=>rw[q]at eo;cases eo
 |some v=>rw[q]at eo;cases eo;exact⟨v,A1,rfl,hp⟩
theorem FrF.look{k:Nat}(h:FrF K B F A σ H E xs Xs)(e:Xs[k]? =some s)(q:look E s=some d):∃v,xs[k]? =some v∧Rp K H v d∧(gZ E s=false→RpF K F H v d):=by
 obtain⟨v,A1,ev,hs⟩:=h.ext e
 cases s with
 |al i=>
  obtain⟨rfl,w,ew,hw⟩:=hs
  cases ew
  cases ei:E[i]? with
  |none=>simp[PL.look,ei]at q
  |some t=>
   obtain⟨o,A2,eo,ht⟩:=h.var ei
   rw[hw]at eo
   cases eo
   obtain⟨v',e',r,c⟩:=ht.val h.fh (d:=d) (by simpa[PL.look,ei]using q)
   cases e'
   exact⟨v,ev,r,fun z=>c (by simpa[gZ,ei]using z)⟩
 |no=>cases q
 |od kvs=>cases q
 |sh d'=>obtain⟨v',e',r,c⟩:=hs.val h.fh q;cases e';exact⟨v,ev,r,c⟩
 |ow ds=>obtain⟨v',e',r,c⟩:=hs.val h.fh q;cases e';exact⟨v,ev,r,c⟩
 |tx ps=>obtain⟨v',e',r,c⟩:=hs.val h.fh q;cases e';exact⟨v,ev,r,c⟩
 |br d'=>obtain⟨v',e',r,c⟩:=hs.val h.fh q;cases e';exact⟨v,ev,r,c⟩
theorem FrF.look0(h:FrF K B F A σ H E (v::xs) (s::Xs))(q:PL.look E s=some d):Rp K H v d∧(gZ E s=false→RpF K F H v d):=by
 obtain⟨v',e,r⟩:=h.look (k:=0) rfl q
 cases e
 exact r
theorem FrF.look1{w:V}{t:Sl}(h:FrF K B F A σ H E (w::v::xs) (t::s::Xs))(q:PL.look E s=some d):Rp K H v d∧(gZ E s=false→RpF K F H v d):=by
 obtain⟨v',e,r⟩:=h.look (k:=1) rfl q
 cases e
 exact r
theorem FrF.mutA(h:FrF K B F A σ H E xs Xs):∀a∈A,(∃us,H a=some (.lst us))∨∃us,H a=some (.dK us):=
 SAll.all (R:=fun a=>(∃us,H a=some (.lst us))∨∃us,H a=some (.dK us)) (fun _ _ _ q=>q.mut) h.sl
theorem FrF.newA{p:Addr}(h:FrF K B F A σ H E xs Xs)(hp:H p=none):p∉A:=fun hm=>by
 rcases h.mutA p hm with⟨_,z⟩ |⟨_,z⟩ <;> rw[hp]at z <;> cases z
theorem FrF.cold{u:V}{e:PyData}(h:FrF K B F A σ H E xs Xs)(r:Rp K H u e)(f:cT e=true):Rp K F u e:=(r.cold f).same h.tf
theorem FrF.coldA{us:List V}{es:List PyData}(h:FrF K B F A σ H E xs Xs)(r:RpA K H us es)(f:bE es=true):RpA K F us es:=(r.cold f).same h.tf
theorem FrF.push(h:FrF K B F A σ H E xs Xs)(q:SlOk K F H σ (some v) s []):FrF K B F A σ H E (v::xs) (s::Xs):=
 ⟨h.bf,h.fh,h.tf,.cons (A:=[]) q h.sl,h.nd,h.fr,by simp[h.len],h.pl⟩
theorem FrF.pop(h:FrF K B F A σ H E (v::xs) (s::Xs)):∃A',FrF K B F A' σ H E xs Xs:=by
 obtain⟨bf,fh,tf,sl,nd,fr,len,pl⟩:=h
 generalize hT:List.map some (v::xs)++σ=T at sl
 generalize hS:(s::Xs)++E=S at sl
 cases sl with
 |nil=>cases hS
 |cons q r=>
  injection hT with _ hT
  injection hS with _ hS
  subst hT hS
  exact⟨_,bf,fh,tf,r,(List.nodup_append.mp nd).2.1,fun a ha=>fr a (pD _ ha),by simpa using len,pl⟩
theorem FrF.grow{H':Hp}(h:FrF K B F A σ H E xs Xs)(g:Same H H'):FrF K B (fun b=>if b∈A then none else H' b) A σ H' E xs Xs:=by
 have nF:∀b o,F b=some o→b∉A:=fun b o e hb=>by rw[h.fr b hb]at e;cases e
 have FF:Same F (fun b=>if b∈A then none else H' b):=fun b o e=>by
  show(if b∈A then none else H' b)=some o
  rw[if_neg (nF b o e)]
  exact g _ _ (h.fh _ _ e)
 have hA:∀b∈A,H' b=H b:=fun b hb=>by
  rcases h.mutA b hb with⟨_,z⟩ |⟨_,z⟩ <;> rw[z,g _ _ z]
 refine⟨h.bf.trans FF,fun b o e=>?_,fun b o e=>?_,h.sl.mono fun o s C _ hC q=>q.stay FF (fun b hb=>hA b (hC b hb)) fun _=>g,h.nd,fun a ha=>if_pos ha,h.len,h.pl⟩
 ·by_cases hb:b∈A
  ·rw[if_pos hb]at e;cases e
  ·rw[if_neg hb]at e;exact e
 ·obtain⟨e1,e2⟩:=Option.filter_eq_some_iff.mp e
  show(if b∈A then none else H' b)=some o
  by_cases hb:b∈A
  ·rw[hA b hb]at e1
   rcases h.mutA b hb with⟨_,z⟩ |⟨_,z⟩ <;> rw[z]at e1 <;> cases e1 <;> cases e2
  ·rw[if_neg hb];exact e1
theorem FrF.newl{p:Addr}{vs:List V}{ds:List PyData}(h:FrF K B F A σ H E xs Xs)(r:RpA K F vs ds)(hp:H p=none):FrF K B F (p::A) σ (upd H p (.lst vs)) E (.ref p::xs) (.ow ds::Xs):=by
 have g:Same H (upd H p (.lst vs)):=fg hp _
 have nA:=h.newA hp
 refine⟨h.bf,h.fh.trans g,fun b o e=>?_,.cons (A:=[p]) ⟨p,vs,rfl,rfl,upd_same,r⟩ (h.sl.mono fun o s C _ hC q=>q.stay (Same.refl _) (fun b hb=>aB fun z=>nA (z▸hC b hb)) fun _=>g),List.nodup_cons.mpr ⟨nA,h.nd⟩,fun a ha=>?_,by simp[h.len],h.pl⟩
 ·obtain⟨e1,e2⟩:=Option.filter_eq_some_iff.mp e
  by_cases hb:b=p
  ·subst hb;rw[upd_same]at e1;cases e1;cases e2
  ·rw[aB hb]at e1;exact h.tf b o (lm e1 e2)
 ·rcases Zal.mp ha with z |z
  ·subst z;exact h.fh.free hp
  ·exact h.fr a z
theorem FrF.newt{p:Addr}{vs:List V}{ds:List PyData}(h:FrF K B F A σ H E xs Xs)(r:RpA K F vs ds)(hp:H p=none):FrF K B (upd F p (.tup vs)) A σ (upd H p (.tup vs)) E (.ref p::xs) (.sh (.tuple ds)::Xs):=by
 have g:Same H (upd H p (.tup vs)):=fg hp _
 have nA:=h.newA hp
 have gF:Same F (upd F p (.tup vs)):=fg (h.fh.free hp) _
 refine⟨h.bf.trans gF,fun b o e=>?_,fun b o e=>?_,.cons (A:=[]) ⟨rfl,_,rfl,.tup (.inl (.inl upd_same)) (r.same gF)⟩ (h.sl.mono fun o s C _ hC q=>q.stay gF (fun b hb=>aB fun z=>nA (z▸hC b hb)) fun _=>g),h.nd,fun a ha=>?_,by simp[h.len],h.pl⟩
 ·by_cases hb:b=p
  ·subst hb;rw[upd_same]at e ⊢;exact e
  ·rw[aB hb]at e ⊢;exact h.fh _ _ e
 ·obtain⟨e1,e2⟩:=Option.filter_eq_some_iff.mp e
  by_cases hb:b=p
  ·subst hb;rw[upd_same]at e1 ⊢;exact e1
  ·rw[aB hb]at e1 ⊢;exact h.tf b o (lm e1 e2)
 ·have ne:a≠p:=fun z=>nA (z▸ha)
  rw[aB ne];exact h.fr a ha
theorem FrF.mut{i:Nat}{ds:List PyData}(h:FrF K B F A σ H E xs Xs)(e:E[i]? =some (.ow ds))(c:∀s∈Xs,s.isBr=false):
  ∃l vs,σ[i]? =some (some (.ref l))∧H l=some (.lst vs)∧RpA K F vs ds∧∀vs' ds',RpA K F vs' ds'→FrF K B F A σ (upd H l (.lst vs')) (E.set i (.ow ds')) xs Xs:=by
 obtain⟨o,A0,A1,A2,eA,eo,hp,put⟩:=h.sl.at (k:=Xs.length+i) (s:=.ow ds) (by rw[AK (by omega)];simpa using e)
 rw[AK (by rw[fH,h.len];omega),fH,h.len,Zb]at eo
 obtain⟨l,vs,rfl,rfl,hl,r⟩:=hp
 refine⟨l,vs,eo,hl,r,fun vs' ds' r'=>?_⟩
 have hlA:l∈A:=by rw[eA];simp
 have nl:∀b,b∈A0∨b∈A2→b≠l:=fun b hb z=>by
  subst z
  have nd:=h.nd
  rw[eA]at nd
  rcases hb with hb |hb
  ·exact(List.nodup_append.mp nd).2.2 b hb b (by simp) rfl
  ·exact(List.nodup_append.mp (List.nodup_append.mp nd).2.1).2.2 b (by simp) b hb rfl
 have lF:F l=none:=h.fr l hlA
 have z:=put (SlOk K F (upd H l (.lst vs')) σ) (some (.ref l)) (.ow ds') [l] ⟨l,vs',rfl,rfl,upd_same,r'⟩ fun o s C hs hC q=>q.stay (Same.refl _) (fun b hb=>aB (nl b (hC b hb))) fun z=>by
  rcases Zan.mp hs with hs |hs
  ·rw[c s hs]at z;cases z
  ·have:=h.pl s hs
   cases s <;> simp[Sl.isAl,Sl.isBr]at this z
 have e3:(Xs++E).set (Xs.length+i) (.ow ds')=Xs++E.set i (.ow ds'):=by
  rw[List.set_append_right _ _ (by omega),Zb]
 have e2:(List.map some xs++σ).set (Xs.length+i) (some (V.ref l))=List.map some xs++σ:=by
  rw[←h.len,List.set_append_right _ _ (by rw[fH];omega),fH,Zb]
  congr 1
  exact List.ext_getElem? fun j=>by
   by_cases hj:i=j
   ·subst hj
    rw[List.getElem?_set_self',eo];rfl
   ·rw[List.getElem?_set_ne hj]
 rw[e2,e3,←eA]at z
 refine⟨h.bf,fun b o q=>?_,?_,z,h.nd,h.fr,h.len,fun s hs=>?_⟩
 ·rw[aB (fun z=>by rw[z,lF]at q;cases q)]
  exact h.fh _ _ q
 ·rw[nZ hl];exact h.tf
 ·rcases List.mem_or_eq_of_mem_set hs with hs |hs
  ·exact h.pl s hs
  ·subst hs;rfl
theorem FrF.frzAt{k:Nat}(h:FrF K B F A σ H E xs Xs)(e:(Xs++E)[k]? =some s)(q:s.val=some d)(c:s.isAl=false):
  ∃F' A' v,(xs.map some++σ)[k]? =some (some v)∧Rp K F' v d∧Same B F'∧Same F' H∧Same (tups H) F'∧SAll (SlOk K F' H σ) (xs.map some++σ) ((Xs++E).set k (.sh d)) A'∧A'.Nodup∧∀a∈A',F' a=none:=by
 obtain⟨o,A0,A1,A2,eA,eo,hp,put⟩:=h.sl.at e
 have nd:=h.nd
 rw[eA]at nd
 have nA1:∀b o,F b=some o→b∉A1:=fun b o e hb=>by
  have:=h.fr b (by rw[eA];simp[hb])
  rw[this]at e;cases e
 have FF:Same F (sL F H A1):=fun b o e=>by rw[n5 (nA1 b o e)];exact e
 obtain⟨v,rfl,r⟩:∃v,o=some v∧Rp K (sL F H A1) v d:=by
  cases s with
  |no=>cases q
  |od kvs=>cases q
  |al i=>cases c
  |br d'=>cases c
  |sh d'=>
   obtain⟨rfl,v,rfl,r⟩:=hp
   cases q
   exact⟨v,rfl,r.same FF⟩
  |ow ds=>
   obtain⟨l,vs,rfl,rfl,hl,r⟩:=hp
   cases q
   exact⟨_,rfl,.lst (SqL.of ((qV (by simp)).trans hl)) (r.same FF)⟩
  |tx ps=>
   obtain⟨t,vs,rfl,ht,r⟩:=hp
   cases q
   refine⟨_,rfl,.tup (SqT.of (FF _ _ ht)) ?_⟩
   have r':PtsOk K (sL F H A1) (sL F H A1) vs ps A1:=r.stay FF fun b hb=>qV hb
   exact r'.rp (Same.refl _)
 have e2:(List.map some xs++σ).set k (some v)=List.map some xs++σ:=List.ext_getElem? fun j=>by
  by_cases hj:k=j
  ·subst hj
   rw[List.getElem?_set_self',eo];rfl
  ·rw[List.getElem?_set_ne hj]
 have z:=put (SlOk K (sL F H A1) H σ) (some v) (.sh d) [] ⟨rfl,v,rfl,r⟩ fun o s C _ hC q=>q.stay FF (fun b _=>rfl) fun _=>Same.refl _
 rw[e2]at z
 refine⟨sL F H A1,A0++A2,v,eo,r,h.bf.trans FF,fun b o e=>?_,fun b o e=>FF _ _ (h.tf _ _ e),by simpa using z,?_,fun a ha=>?_⟩
 ·by_cases hb:b∈A1
  ·rw[qV hb]at e;exact e
  ·rw[n5 hb]at e;exact h.fh _ _ e
 ·exact List.Nodup.sublist (List.Sublist.append (List.Sublist.refl _) (List.sublist_append_right _ _)) nd
 ·have hn:a∉A1:=fun hm=>by
   rcases Zan.mp ha with z |z
   ·exact(List.nodup_append.mp nd).2.2 a z a (by simp[hm]) rfl
   ·exact(List.nodup_append.mp (List.nodup_append.mp nd).2.1).2.2 a hm a z rfl
  rw[n5 hn]
  exact h.fr a (by rw[eA];rcases Zan.mp ha with z |z <;> simp[z])
end
def frz(E:List Sl):Sl→Option (PyData×List Sl)
 |.sh d=>some (d,E)
 |.ow ds=>some (.list ds,E)
 |.tx ps=>some (.tuple (ps.map Pt.val),E)
 |.br d=>if cT d then some (d,E)else none
 |.al i=>match E[i]? with
  |some (.sh d)=>some (d,E)
  |some (.ow ds)=>some (.list ds,E.set i (.sh (.list ds)))
  |some (.tx ps)=>some (.tuple (ps.map Pt.val),E.set i (.sh (.tuple (ps.map Pt.val))))
  |_=>none
 |_=>none
section
variable {K:Frag} {B F:Hp} {A:List Addr} {σ:Sg} {H:Hp} {E E':List Sl} {xs:List V} {Xs:List Sl} {v:V} {s:Sl} {d:PyData}
theorem FrF.frzVar{i:Nat}(h:FrF K B F A σ H E xs Xs)(e:E[i]? =some s)(q:s.val=some d):∃F' A' v,σ[i]? =some (some v)∧Rp K F' v d∧FrF K B F' A' σ H (E.set i (.sh d)) xs Xs:=by
 obtain⟨F',A',v,ev,r,b1,b2,b3,sl,nd,fr⟩:=h.frzAt (k:=Xs.length+i) (by rw[AK (by omega)];simpa using e) q (h.pl s (List.mem_of_getElem? e))
 rw[AK (by rw[fH,h.len];omega),fH,h.len,Zb]at ev
 have e3:(Xs++E).set (Xs.length+i) (.sh d)=Xs++E.set i (.sh d):=by
  rw[List.set_append_right _ _ (by omega),Zb]
 rw[e3]at sl
 refine⟨F',A',v,ev,r,b1,b2,b3,sl,nd,fr,h.len,fun s hs=>?_⟩
 rcases List.mem_or_eq_of_mem_set hs with hs |hs
 ·exact h.pl s hs
 ·subst hs;rfl
theorem FrF.frz0(h:FrF K B F A σ H E (v::xs) (s::Xs))(q:PL.frz E s=some (d,E')):∃F' A',FrF K B F' A' σ H E' (v::xs) (.sh d::Xs):=by
 have key:s.val=some d→s.isAl=false→E=E'→∃F' A',FrF K B F' A' σ H E' (v::xs) (.sh d::Xs):=fun q' c e=>by
  subst e
  obtain⟨F',A',v',ev,r,b1,b2,b3,sl,nd,fr⟩:=h.frzAt (k:=0) rfl q' c
  exact⟨F',A',b1,b2,b3,sl,nd,fr,by simpa using h.len,h.pl⟩
 have al:∀i t,s=.al i→E[i]? =some t→t.val=some d→E'=E.set i (.sh d)→∃F' A',FrF K B F' A' σ H E' (v::xs) (.sh d::Xs):=fun i t es ei qt eE=>by
  subst es eE
  obtain⟨v',A1,ev,hs⟩:=h.ext (k:=0) rfl
  cases ev
  obtain⟨rfl,w,ew,hw⟩:=hs
  cases ew
  obtain⟨F',A',w,ew,r,h'⟩:=h.frzVar ei qt
  rw[hw]at ew
  cases ew
  obtain⟨A2,h2⟩:=h'.pop
  exact⟨F',A2,h2.push ⟨rfl,_,rfl,r⟩⟩
 cases s with
 |no=>cases q
 |od kvs=>cases q
 |sh d'=>cases q;exact key rfl rfl rfl
 |ow ds=>cases q;exact key rfl rfl rfl
 |tx ps=>cases q;exact key rfl rfl rfl
 |br d'=>
  simp only[PL.frz]at q
  split at q
  ·rename_i hf
   cases q
   obtain⟨r,_⟩:=h.look0 (d:=d) rfl
   obtain⟨A2,h2⟩:=h.pop
   exact⟨F,A2,h2.push ⟨rfl,_,rfl,h.cold r hf⟩⟩
  ·cases q
 |al i=>
  simp only[PL.frz]at q
  split at q
  ·rename_i d' ei
   cases q
   refine al i _ rfl ei rfl ?_
   exact List.ext_getElem? fun j=>by
    by_cases hj:i=j
    ·subst hj;rw[List.getElem?_set_self',ei];rfl
    ·rw[List.getElem?_set_ne hj]
  ·rename_i ds ei
   cases q
   exact al i _ rfl ei rfl rfl
  ·rename_i ps ei
   cases q
   exact al i _ rfl ei rfl rfl
  ·cases q
theorem FrF.store{i:Nat}(h:FrF K B F A σ H E (v::xs) (s::Xs))(c:s.isAl=false)(cx:∀s∈Xs,s.isAl=false)(hi:i < E.length):∃A',FrF K B F A' (σ.set i (some v)) H (E.set i s) xs Xs:=by
 have hlen:=h.len
 have hsl:=h.slen
 obtain⟨bf,fh,tf,sl,nd,fr,len,pl⟩:=h
 generalize hT:List.map some (v::xs)++σ=T at sl
 generalize hS:(s::Xs)++E=S at sl
 cases sl with
 |nil=>cases hS
 |cons q r=>
  rename_i A1 _ _ A2
  injection hT with h1 hT
  injection hS with h2 hS
  subst h1 h2 hT hS
  have len':xs.length=Xs.length:=by simpa using len
  have r:SAll (SlOk K F H σ) (List.map some xs++σ) (Xs++E) A2:=r
  obtain⟨t,et⟩:∃t,E[i]? =some t:=⟨E[i],uv hi⟩
  obtain⟨o,C0,C1,C2,eA,eo,hp,put⟩:=r.at (k:=Xs.length+i) (s:=t) (by rw[AK (by omega)];simpa using et)
  have all:∀s'∈Xs++E,s'.isAl=false:=fun s' hs=>(Zan.mp hs).elim (cx s') (pl s')
  have chg:∀(o:Option V) (s':Sl) (C:List Addr),s'.isAl=false→SlOk K F H σ o s' C→SlOk K F H (σ.set i (some v)) o s' C:=fun o s' C hc z=>by
   cases s' <;> first |exact z |cases hc
  have z:=put (SlOk K F H (σ.set i (some v))) (some v) s A1 (chg _ _ _ c q) fun o s' C hs _ z=>chg o s' C (all s' hs) z
  have e3:(Xs++E).set (Xs.length+i) s=Xs++E.set i s:=by
   rw[List.set_append_right _ _ (by omega),Zb]
  have e2:(List.map some xs++σ).set (Xs.length+i) (some v)=List.map some xs++σ.set i (some v):=by
   rw[←len',List.set_append_right _ _ (by rw[fH];omega),fH,Zb]
  rw[e2,e3]at z
  refine⟨_,bf,fh,tf,z,?_,fun a ha=>fr a ?_,len',fun s' hs=>?_⟩
  ·rw[eA]at nd
   have p:(C0++(A1++C2)).Perm (A1++(C0++C2)):=by
    rw[←pA,←pA]
    exact List.Perm.append_right _ List.perm_append_comm
   refine p.nodup_iff.mpr (List.Nodup.sublist ?_ nd)
   exact List.Sublist.append (List.Sublist.refl _) (List.Sublist.append (List.Sublist.refl _) (List.sublist_append_right _ _))
  ·rw[eA]
   simp only[Zan]at ha ⊢
   rcases ha with z |z |z
   ·exact .inr (.inl z)
   ·exact .inl z
   ·exact .inr (.inr (.inr z))
  ·rcases List.mem_or_eq_of_mem_set hs with hs |hs
   ·exact pl s' hs
   ·subst hs;exact c
end
end PL
namespace PL
open PySem L2 Nh
abbrev bH:=List Sl→Option (Sl×List Sl)
abbrev kG:=List Sl→Option (Bool×List Sl)
abbrev ln:=List Sl→Option (List Sl×List Sl)
abbrev lq:=List Sl→Option (List PyData×List Sl)
inductive Fl where
 |nx |bk |ct |rt (r:Sl)
abbrev dO:=List Sl→Option (List Sl×Fl)
abbrev Calm(Xs:List Sl):Prop:=∀s∈Xs,s.isBr=false
abbrev Still(Xs:List Sl):Prop:=∀s∈Xs,s.isAl=false
theorem Still.calm{Xs:List Sl}(h:Still Xs):Calm Xs:=fun s hs=>by
 have:=h s hs
 cases s <;> simp[Sl.isAl,Sl.isBr]at this ⊢
theorem Still.nil{Xs:List Sl}(h:Xs=[]):Still Xs:=fun s hs=>by subst h;cases hs
theorem Calm.nil{Xs:List Sl}(h:Xs=[]):Calm Xs:=(Still.nil h).calm
theorem Calm.cons{Xs:List Sl}{s:Sl}(h:Calm Xs)(hs:s.isBr=false):Calm (s::Xs):=fun t ht=>(Zal.mp ht).elim (fun e=>e▸hs) (h t)
def rd(K:Frag)(m:Bool)(f:bH):TE:=fun σ H Q=>∃B E xs Xs r E',Frm K B σ H E xs Xs∧(m=true→Calm Xs)∧f E=some (r,E')∧∀v H',Frm K B σ H' E' (v::xs) (r::Xs)→Q v H'
def rt(K:Frag)(m:Bool)(f:kG):TT:=fun σ H Q=>∃B E xs Xs b E',Frm K B σ H E xs Xs∧(m=true→Calm Xs)∧f E=some (b,E')∧∀H',Frm K B σ H' E' xs Xs→Q b H'
def ra(K:Frag)(m:Bool)(f:ln):TA:=fun σ H Q=>∃B E xs Xs rs E',Frm K B σ H E xs Xs∧(m=true→Calm Xs)∧f E=some (rs,E')∧∀vs H',vs.length=rs.length→Frm K B σ H' E' (vs.reverse++xs) (rs.reverse++Xs)→Q vs H'
def Hv(K:Frag)(m:Bool)(f:lq):TA:=fun σ H Q=>∃B E xs Xs ds E',Frm K B σ H E xs Xs∧(m=true→Calm Xs)∧f E=some (ds,E')∧∀vs H',vs.length=ds.length→Frm K B σ H' E' (vs.reverse++xs) (ds.reverse.map .sh++Xs)→Q vs H'
def rs(K:Frag)(g:dO):TS:=fun D σ H=>∃B E xs Xs E' fl,Frm K B σ H E xs Xs∧Xs=[]∧g E=some (E',fl)∧match fl with
 |.nx=>∀σ' H',Frm K B σ' H' E' xs Xs→D.nx σ' H'
 |.bk=>∀σ' H',Frm K B σ' H' E' xs Xs→D.bk σ' H'
 |.ct=>∀σ' H',Frm K B σ' H' E' xs Xs→D.ct σ' H'
 |.rt r=>∀σ' v H',Frm K B σ' H' E' (v::xs) (r::Xs)→D.rt v H'
def EX(X:Cx)(e:Expr)(m:Bool)(f:bH):Prop:=PE X e (rd X.K m f)
def TX(X:Cx)(e:Expr)(m:Bool)(f:kG):Prop:=PT X e (rt X.K m f)
def WX(X:Cx)(e:Expr)(m:Bool)(f:kG):Prop:=PW X e (rt X.K m f)
def AX(X:Cx)(es:List Expr)(m:Bool)(f:ln):Prop:=PA X es (ra X.K m f)
def DX(X:Cx)(es:List Expr)(m:Bool)(f:lq):Prop:=PA X es (Hv X.K m f)
def SX(X:Cx)(s:Stmt)(g:dO):Prop:=PS X s (rs X.K g)
def uM(X:Cx)(s:List Stmt)(g:dO):Prop:=PSs X s (rs X.K g)
section
variable {X:Cx}
theorem bW{e:Expr}{t t':TE}(h:PE X e t)(k:∀σ H Q,t' σ H Q→t σ H Q):PE X e t':=fun pins s σ H Q I q=>h pins s σ H Q I (k σ H Q q)
theorem uN{e:Expr}{t t':TT}(h:PT X e t)(k:∀σ H Q,t' σ H Q→t σ H Q):PT X e t':=fun pins s σ H Q I q=>h pins s σ H Q I (k σ H Q q)
theorem yG{e:Expr}{t t':TT}(h:PW X e t)(k:∀σ H Q,t' σ H Q→t σ H Q):PW X e t':=fun whole pins s σ H Q I q=>h whole pins s σ H Q I (k σ H Q q)
theorem qW{es:List Expr}{t t':TA}(h:PA X es t)(k:∀σ H Q,t' σ H Q→t σ H Q):PA X es t':=fun pos pins s σ H Q I q=>h pos pins s σ H Q I (k σ H Q q)
theorem kH{st:Stmt}{t t':TS}(h:PS X st t)(k:∀D σ H,t' D σ H→t D σ H):PS X st t':=fun pins s σ H D I q=>h pins s σ H D I (k D σ H q)
theorem vW{st:List Stmt}{t t':TS}(h:PSs X st t)(k:∀D σ H,t' D σ H→t D σ H):PSs X st t':=fun pins s σ H D I q=>h pins s σ H D I (k D σ H q)
end
def CV:PyData→Option V
 |.none=>some .non
 |.bool b=>some (.bl b)
 |.int i=>some (.int i)
 |.str x=>some (.str x)
 |_=>none
theorem n6{K:Frag}{H:Hp}{d:PyData}{v:V}(h:CV d=some v):Rp K H v d:=by
 cases d <;> simp[CV]at h <;> subst h <;> constructor
def aa(i:Nat):bH:=fun E=>match E[i]? with
 |some (.sh d)=>some (.sh d,E)
 |some (.ow _)=>some (.al i,E)
 |some (.od _)=>some (.al i,E)
 |some (.tx _)=>some (.al i,E)
 |_=>none
def pC(d:PyData):bH:=fun E=>some (.sh d,E)
section
variable {X:Cx} {K:Frag}
theorem ae (i:Nat) {x:Str} {pos:Pos} (hN:X.N[i]? =some x:=by rfl) (hv:EY X.env.scope x:=by first |exact Or.inl rfl |exact Or.inr (Or.inl rfl) |exact Or.inr (Or.inr rfl)) (hd:(x == ("__debug__":Str))=false:=by decide)
  (hcd:(x == ("__classdict__":Str))=false:=by decide):EX X (.Name x pos) false (aa i):=by
 refine bW (uC hN hv hd hcd) fun σ H Q h=>?_
 obtain⟨B,E,xs,Xs,r,E',⟨F,A,fr⟩,_,e,q⟩:=h
 unfold aa at e
 split at e
 ·rename_i d ei
  cases e
  obtain⟨o,A1,eo,rfl,v,rfl,rp⟩:=fr.var ei
  exact⟨v,eo,q v H ⟨F,A,fr.push ⟨rfl,v,rfl,rp⟩⟩⟩
 ·rename_i ds ei
  cases e
  obtain⟨o,A1,eo,l,vs,rfl,_⟩:=fr.var ei
  exact⟨_,eo,q _ H ⟨F,A,fr.push ⟨rfl,_,rfl,eo⟩⟩⟩
 ·rename_i ds ei
  cases e
  obtain⟨o,A1,eo,l,vs,A2,rfl,_⟩:=fr.var ei
  exact⟨_,eo,q _ H ⟨F,A,fr.push ⟨rfl,_,rfl,eo⟩⟩⟩
 ·rename_i ds ei
  cases e
  obtain⟨o,A1,eo,l,vs,rfl,_⟩:=fr.var ei
  exact⟨_,eo,q _ H ⟨F,A,fr.push ⟨rfl,_,rfl,eo⟩⟩⟩
 ·cases e
theorem By{e:Expr}{v:V}(d:PyData)(h:PE X e (tC v))(hd:CV d=some v:=by rfl):EX X e false (pC d):=by
 refine bW h fun σ H Q h=>?_
 obtain⟨B,E,xs,Xs,r,E',⟨F,A,fr⟩,_,e,q⟩:=h
 cases e
 exact q v H ⟨F,A,fr.push ⟨rfl,v,rfl,n6 hd⟩⟩
theorem aw{i j pos}:EX X (.Constant (.int i) j pos) false (pC (.int i)):=By _ Dp
theorem fI{b j pos}:EX X (.Constant (.bool b) j pos) false (pC (.bool b)):=By _ EZ
theorem DW{j pos}:EX X (.Constant .none j pos) false (pC .none):=By _ Dq
theorem fb{x j pos}:EX X (.Constant (.str x) j pos) false (pC (.str x)):=By _ uD
end
abbrev P2:=List Sl→Sl→Sl→Option (Sl×List Sl)
def iH(K:Frag)(r:R2)(p:P2):Prop:=∀{B F:Hp} {A:List Addr} {σ:Sg} {H:Hp} {E:List Sl} {xs:List V} {Xs:List Sl} {v1 v2:V} {s1 s2 res:Sl} {E':List Sl} {Q:VK},
 FrF K B F A σ H E (v2::v1::xs) (s2::s1::Xs)→p E s1 s2=some (res,E')→(∀v H',Frm K B σ H' E' (v::xs) (res::Xs)→Q v H')→r v1 v2 H Q
def ag(p:P2)(m2:Bool)(f g:bH):bH:=fun E=>(f E).bind fun a=>if m2&&a.1.isBr then none else (g a.2).bind fun b=>p b.2 a.1 b.1
theorem qX{K:Frag}{r:R2}{p:P2}(hp:iH K r p){m1 m2:Bool}{f g:bH}{σ:Sg}{H:Hp}{Q:VK}(h:rd K (m1||m2) (ag p m2 f g) σ H Q):Ff r (rd K m1 f) (rd K m2 g) σ H Q:=by
 obtain⟨B,E,xs,Xs,res,E',fr,c,e,q⟩:=h
 obtain⟨⟨s1,E1⟩,e1,e⟩:=Za.mp e
 by_cases hb:(m2&&s1.isBr)=true
 ·rw[if_pos hb]at e;cases e
 rw[if_neg hb]at e
 obtain⟨⟨s2,E2⟩,e2,e⟩:=Za.mp e
 refine⟨B,E,xs,Xs,s1,E1,fr,fun z=>c (by simp[z]),e1,fun v1 H1 fr1=>?_⟩
 refine⟨B,E1,v1::xs,s1::Xs,s2,E2,fr1,fun z=>?_,e2,fun v2 H2 fr2=>?_⟩
 ·refine Calm.cons (c (by simp[z])) ?_
  cases hs:s1.isBr with
  |false=>rfl
  |true=>exact absurd (by simp[z,hs]) hb
 ·obtain⟨F,A,fr2⟩:=fr2
  exact hp fr2 e q
def fu(op:PyData→PyData→Option PyData):P2:=fun E s1 s2=>(look E s1).bind fun d1=>(look E s2).bind fun d2=>(op d1 d2).map fun d=>(.sh d,E)
theorem FrF.res2{K:Frag}{B F:Hp}{A:List Addr}{σ:Sg}{H:Hp}{E:List Sl}{xs:List V}{Xs:List Sl}{v1 v2 v:V}{s1 s2 s:Sl}(h:FrF K B F A σ H E (v2::v1::xs) (s2::s1::Xs))(q:SlOk K F H σ (some v) s []):Frm K B σ H E (v::xs) (s::Xs):=by
 obtain⟨A1,h⟩:=h.pop
 obtain⟨A2,h⟩:=h.pop
 exact⟨F,A2,h.push q⟩
theorem kI{K:Frag}{r:R2}{op:PyData→PyData→Option PyData}(h:∀(d1 d2 d:PyData) (v1 v2:V) (H:Hp) (Q:VK),op d1 d2=some d→Rp K H v1 d1→Rp K H v2 d2→∃v,CV d=some v∧(Q v H→r v1 v2 H Q)):iH K r (fu op):=by
 intro B F A σ H E xs Xs v1 v2 s1 s2 res E' Q fr e q
 obtain⟨d1,e1,e⟩:=Za.mp e
 obtain⟨d2,e2,e⟩:=Za.mp e
 obtain⟨d,e3,e⟩:=Zad.mp e
 cases e
 obtain⟨v,hv,k⟩:=h d1 d2 d v1 v2 H Q e3 (fr.look1 e1).1 (fr.look0 e2).1
 exact k (q v H (fr.res2 ⟨rfl,v,rfl,n6 hv⟩))
section
variable {X:Cx} {a b:Expr} {m1 m2:Bool} {f g:bH} {pos:Pos}
theorem n8{op:Operator}{r:R2}{p:P2}(ho:OpR X (binaryOp op) r)(hp:iH X.K r p)(ha:EX X a m1 f)(hb:EX X b m2 g):EX X (.BinOp a op b pos) (m1||m2) (ag p m2 f g):=bW (Fg ho ha hb) fun _ _ _ h=>qX hp h
theorem DY{op:CmpOp}{r:R2}{p:P2}(ho:OpR X (compareOp op) r)(hp:iH X.K r p)(ha:EX X a m1 f)(hb:EX X b m2 g)(hm:behindInMarks op b=false):EX X (.Compare a [op] [b] pos) (m1||m2) (ag p m2 f g):=bW (Bf ho ha hb hm) fun _ _ _ h=>qX hp h
def gS(f:bH):kG:=fun E=>(f E).bind fun a=>match a.1 with
 |.sh (.bool b)=>some (b,a.2)
 |_=>none
theorem DZ{K:Frag}{m:Bool}{f:bH}{σ:Sg}{H:Hp}{Q:Bool→Hp→Prop}(h:rt K m (gS f) σ H Q):rd K m f σ H (fun x H'=>∃k,x=.bl k∧Q k H'):=by
 obtain⟨B,E,xs,Xs,b,E',fr,c,e,q⟩:=h
 obtain⟨⟨s,E1⟩,e1,e⟩:=Za.mp e
 refine⟨B,E,xs,Xs,s,E1,fr,c,e1,fun v H' ⟨F,A,fr'⟩=>?_⟩
 simp only at e
 split at e
 ·cases e
  obtain⟨r,_⟩:=fr'.look0 (d:=.bool b) rfl
  cases r
  obtain⟨A',fr2⟩:=fr'.pop
  exact⟨b,rfl,q H' ⟨F,A',fr2⟩⟩
 ·cases e
theorem mh{op:CmpOp}{r:R2}{p:P2}(ho:OpR X (compareOp op) r)(hp:iH X.K r p)(ha:EX X a m1 f)(hb:EX X b m2 g)(hm:behindInMarks op b=false):TX X (.Compare a [op] [b] pos) (m1||m2) (gS (ag p m2 f g)):=by
 refine uN (Bg ho ha hb hm) fun σ H Q h=>?_
 exact qX hp (DZ h)
end
def D0:Int:=2 ^ 20000
def jr(i j:Int):Bool:=decide (-(2 ^ 64) < i∧i < 2 ^ 64)||decide (-(2 ^ 64) < j∧j < 2 ^ 64)||decide (-D0 < i∧i < D0∧ -D0 < j∧j < D0)
def eP(j:Int):Bool:=decide (0 < j∧j < 2 ^ 200)
def mi(C:Int→Int→Bool)(g:Int→Int→PyData):PyData→PyData→Option PyData
 |.int i,.int j=>if C i j then some (g i j)else none
 |_,_=>none
abbrev EV(C:Int→Int→Bool)(g:Int→Int→V):R2:=rI (fun i j=>C i j=true) g
theorem qY{K:Frag}{C:Int→Int→Bool}{g:Int→Int→PyData}{g':Int→Int→V}(hg:∀i j,CV (g i j)=some (g' i j)):iH K (EV C g') (fu (mi C g)):=by
 refine kI fun d1 d2 d v1 v2 H Q e r1 r2=>?_
 unfold mi at e
 split at e
 ·split at e
  ·cases e
   cases r1
   cases r2
   rename_i hC
   exact⟨_,hg _ _,fun q=>⟨_,_,rfl,rfl,hC,q⟩⟩
  ·cases e
 ·cases e
section
variable {X:Cx}
theorem mW{i:Int}(h1: -D0 < i)(h2:i < D0):Builtin.Int.intBits i≤2 ^ 20:=by
 unfold D0 at h1 h2
 have h:i.natAbs < 2 ^ 20000:=by
  have e:((2 ^ 20000:Nat):Int)=2 ^ 20000:=Int.natCast_pow 2 20000
  generalize (2 ^ 20000:Int)=z at h1 h2 e
  generalize (2 ^ 20000:Nat)=y at e ⊢
  omega
 unfold Builtin.Int.intBits
 split
 ·exact Nat.zero_le _
 ·rename_i hz
  have hz':i≠0:=by simpa using hz
  have:i.natAbs.log2 < 20000:=(Nat.log2_lt (by omega)).mpr h
  omega
theorem yH{i j:Int}(h:jr i j=true):PySem.IntMulOk i j:=by
 unfold jr at h
 simp only[Bool.or_eq_true,decide_eq_true_eq]at h
 rcases h with(h |h) |h
 ·exact CMul.ok (.inl h)
 ·exact CMul.ok (.inr h)
 ·exact PySem.IntMulOk.of_bits (mW h.1 h.2.1) (mW h.2.2.1 h.2.2.2)
end
end PL
namespace PL
open PySem L2 Nh PyProof.Rows
abbrev mX:=L2.St
section
variable {X:Cx}
theorem OpR.or{f:Value→Value→Sem Value}{r r':R2}(h:OpR X f r)(h':OpR X f r'):OpR X f (fun x y H Q=>r x y H Q∨r' x y H Q):=by
 intro pins s σ H x y v u Q I rx ry q
 rcases q with q |q
 ·exact h pins s σ H x y v u Q I rx ry q
 ·exact h' pins s σ H x y v u Q I rx ry q
theorem OpR.imp{f:Value→Value→Sem Value}{r r':R2}(h:OpR X f r)(k:∀x y H Q,r' x y H Q→r x y H Q):OpR X f r':=fun pins s σ H x y v u Q I rx ry q=>h pins s σ H x y v u Q I rx ry (k _ _ _ _ q)
def CW(K:Frag):R2:=fun x y H Q=>∃l b xs zs,x=.ref l∧y=.ref b∧SqL K H l xs∧SqL K H b zs∧xs.length+zs.length≤sizeLine∧∀p,H p=none→Q (.ref p) (upd H p (.lst (xs++zs)))
theorem Bz:OpR X (binaryOp .Add) (CW X.K):=by
 intro pins s σ H x y v u Q I rx ry h
 obtain⟨l,b,xs,zs,rfl,rfl,hH,hB,hz,q⟩:=h
 cases rx
 cases ry
 obtain⟨its,r,p1,z1⟩:=I.list hH
 obtain⟨its2,r2,p2,z2⟩:=I.list hB
 obtain⟨⟨cls,dd,data,sl⟩,ho,hc,n,hd⟩:=p1.isList
 obtain⟨⟨cls2,dd2,data2,sl2⟩,ho2,hc2,n2,yg⟩:=p2.isList
 simp only at hc hd hc2 yg
 subst hc hd hc2 yg
 have l1:=r.length
 have l2:=r2.length
 refine concat_meets ⟨_,ho,rfl⟩ ⟨_,ho2,rfl⟩ noFill_list_add seq_list_add PySem.F.slot_list_add PySem.F.entry_list_add (PySem.F.args_list_add_2 _ _) (list_addW l b its.toArray its2.toArray n n2 dd dd2 sl sl2 (by simp only[l_];omega)) ⟨ho,ho2,?_⟩
 have ea:its.toArray++its2.toArray=(its++its2).toArray:=by simp
 rw[ea]
 exact⟨.ref _,_,I.lnew (t':=s.toks) (r.append r2) (by rw[vH];omega),rfl,q _ I.fresh⟩
def CY(K:Frag):R2:=fun x y H Q=>∃l k xs,x=.ref l∧y=.int k∧SqL K H l xs∧ -(2 ^ 63)≤k∧k < 2 ^ 63∧xs.length*k.toNat≤sizeLine∧
 ∀p,H p=none→Q (.ref p) (upd H p (.lst (List.replicate k.toNat xs).flatten))
theorem BA:OpR X (binaryOp .Mult) (CY X.K):=by
 intro pins s σ H x y v u Q I rx ry h
 obtain⟨l,k,xs,rfl,rfl,hH,h1,h2,hz,q⟩:=h
 cases rx
 obtain⟨t,rfl⟩:=ry
 obtain⟨its,r,p1,z1⟩:=I.list hH
 obtain⟨⟨cls,d,data,sl⟩,ho,hcl,n,hd⟩:=p1.isList
 simp only at hcl hd
 subst hcl hd
 have l1:=r.length
 have hsz:its.toArray.size*k.toNat≤2 ^ 24:=by rw[l_,←l1];exact hz
 refine wpAny_binaryOp_repeat_ref (T:="list") (U:="int") (by decide) ⟨_,ho,rfl⟩ (fun s'=>typeIs_int s' k t) noFill_list_mul F.fills_int_mul F.slot_int_rmul repeat_list F.slot_int_index.lookup
  (call_meets F.slot_int_rmul (typeIs_int s k t) F.entry_int_rmul (F.args_int_rmul_2 _ _) (lm_int_rmul_list_any k t l its.toArray n d sl)
   ⟨ho,rfl,⟨_,ho,rfl⟩,call_meets F.slot_list_mul ⟨_,ho,rfl⟩ F.entry_list_mul (F.args_list_mul_2 _ _)
    (lm_list_mul_any l its.toArray n d sl k t (by simp[Builtin.List.listFitsIndex];omega) (by omega) (by simp[Builtin.List.listTooLong,sizeLine];omega))
    ⟨ho,?_⟩⟩)
 rw[listMul_foldl_if]
 exact⟨.ref _,_,I.lnew (t':=s.toks) (r.rep k.toNat) (by rw[Bq,Nat.mul_comm];exact hz),rfl,q _ I.fresh⟩
end
def ck:P2:=fun E s1 s2=>(look E s1).bind fun d1=>(look E s2).bind fun d2=>match d1,d2 with
 |.int i,.int j=>some (.sh (.int (i+j)),E)
 |.str a,.str b=>if a.length+b.length≤1000000 then some (.sh (.str (a++b)),E)else none
 |.list a,.list b=>if decide (a.length+b.length≤1000000)&&(!gZ E s1||bE a)&&(!gZ E s2||bE b)then some (.ow (a++b),E)else none
 |_,_=>none
theorem small{n:Nat}(h:n≤1000000):n < sizeLine:=Nat.lt_of_le_of_lt h (by rw[sizeLine_eq];decide)
theorem fW{n:Nat}(h:n≤1000000):n≤sizeLine:=kE (small h)
section
variable {K:Frag} {B F:Hp} {A:List Addr} {σ:mX} {H:Hp} {E:List Sl} {xs:List V} {Xs:List Sl} {v:V} {s:Sl} {ds:List PyData}
theorem FrF.items{k:Nat}(h:FrF K B F A σ H E xs Xs)(e:Xs[k]? =some s)(q:PL.look E s=some (.list ds))(c:(!gZ E s||bE ds)=true):∃a vs,xs[k]? =some (.ref a)∧SqL K H a vs∧RpA K F vs ds:=by
 obtain⟨v,ev,r,f⟩:=h.look e q
 cases hh:gZ E s with
 |false=>
  obtain⟨a,vs,rfl,h1,h2⟩:=f hh
  exact⟨a,vs,ev,h1,h2⟩
 |true=>
  rw[hh]at c
  cases r with
  |lst h1 h2=>exact⟨_,_,ev,h1,h.coldA h2 (by simpa using c)⟩
theorem FrF.res2l{v1 v2:V}{s1 s2:Sl}{vs:List V}(h:FrF K B F A σ H E (v2::v1::xs) (s2::s1::Xs))(r:RpA K F vs ds){p:Addr}(hp:H p=none):Frm K B σ (upd H p (.lst vs)) E (.ref p::xs) (.ow ds::Xs):=by
 obtain⟨A1,h⟩:=h.pop
 obtain⟨A2,h⟩:=h.pop
 exact⟨F,_,h.newl r hp⟩
end
abbrev yI(K:Frag):R2:=fun x y H Q=>(∃i j,x=.int i∧y=.int j∧Q (.int (i+j)) H)∨(∃i j,x=.str i∧y=.str j∧i.length+j.length≤sizeLine∧Q (.str (i++j)) H)∨CW K x y H Q
theorem vX{X:Cx}:OpR X (binaryOp .Add) (yI X.K):=OpR.or DE (OpR.or uH Bz)
theorem BB{K:Frag}:iH K (yI K) ck:=by
 intro B F A σ H E xs Xs v1 v2 s1 s2 res E' Q fr e q
 obtain⟨d1,e1,e⟩:=Za.mp e
 obtain⟨d2,e2,e⟩:=Za.mp e
 have r1:=(fr.look1 e1).1
 have r2:=(fr.look0 e2).1
 split at e
 ·cases e;cases r1;cases r2
  exact .inl ⟨_,_,rfl,rfl,q _ _ (fr.res2 ⟨rfl,_,rfl,.int _⟩)⟩
 ·split at e
  ·rename_i hl
   cases e;cases r1;cases r2
   exact .inr (.inl ⟨_,_,rfl,rfl,fW hl,q _ _ (fr.res2 ⟨rfl,_,rfl,.str _⟩)⟩)
  ·cases e
 ·split at e
  ·rename_i hc
   cases e
   simp only[sy,decide_eq_true_eq]at hc
   obtain⟨a1,u1,x1,q1,i1⟩:=fr.items (k:=1) rfl e1 hc.1.2
   obtain⟨a2,u2,x2,q2,i2⟩:=fr.items (k:=0) rfl e2 hc.2
   cases x1;cases x2
   have l1:=i1.len
   have l2:=i2.len
   exact .inr (.inr ⟨_,_,_,_,rfl,rfl,q1,q2,fW (by omega),fun p hp=>q _ _ (fr.res2l (i1.append i2) hp)⟩)
  ·cases e
 ·cases e
def uO:P2:=fu (mi (fun _ _=>true) fun i j=>.int (i - j))
def bo:P2:=fu (mi (fun _ j=>eP j) fun i j=>.int (i / j))
def b7:P2:=fu (mi (fun _ j=>decide (0 < j)) fun i j=>.int (i % j))
section
variable {X:Cx}
theorem BC:OpR X (binaryOp .Sub) (EV (fun _ _=>true) fun i j=>.int (i - j)):=OpR.imp DF fun x y H Q ⟨i,j,a,b,_,q⟩=>⟨i,j,a,b,q⟩
theorem yJ:OpR X (binaryOp .FloorDiv) (EV (fun _ j=>eP j) fun i j=>.int (i / j)):=GG fun i j _ _ _ _ _ hc q=>by
 obtain⟨h1,h2⟩:=of_decide_eq_true hc
 have h3:j.natAbs.log2 < 9000:=by
  have:j.natAbs < 2 ^ 200:=by omega
  have:=(Nat.log2_lt (n:=j.natAbs) (k:=200) (by omega)).mpr this
  omega
 exact floordiv_int (by omega) (by rw[Int.fdiv_eq_ediv_of_nonneg i (by omega)];exact q) (.inl (PyProof.noPylong_of_log2 h3))
theorem BD:OpR X (binaryOp .Mod) (EV (fun _ j=>decide (0 < j)) fun i j=>.int (i % j)):=OpR.imp DG fun x y H Q ⟨i,j,a,b,c,q⟩=>⟨i,j,a,b,of_decide_eq_true c,q⟩
end
def sM:P2:=fun E s1 s2=>(look E s1).bind fun d1=>(look E s2).bind fun d2=>match d1,d2 with
 |.int i,.int j=>if jr i j then some (.sh (.int (i*j)),E)else none
 |.list a,.int k=>if decide (a.length*k.toNat≤1000000∧ -1000000≤k∧k≤1000000)&&(!gZ E s1||bE a)then some (.ow (List.replicate k.toNat a).flatten,E)else none
 |_,_=>none
abbrev CZ(K:Frag):R2:=fun x y H Q=>EV jr (fun i j=>.int (i*j)) x y H Q∨CY K x y H Q
theorem BE{X:Cx}:OpR X (binaryOp .Mult) (CZ X.K):=OpR.or (GG fun _ _ _ _ _ _ _ hc q=>mul_int q (yH hc)) BA
theorem BF{K:Frag}:iH K (CZ K) sM:=by
 intro B F A σ H E xs Xs v1 v2 s1 s2 res E' Q fr e q
 obtain⟨d1,e1,e⟩:=Za.mp e
 obtain⟨d2,e2,e⟩:=Za.mp e
 have r1:=(fr.look1 e1).1
 have r2:=(fr.look0 e2).1
 split at e
 ·split at e
  ·rename_i hm
   cases e;cases r1;cases r2
   exact .inl ⟨_,_,rfl,rfl,hm,q _ _ (fr.res2 ⟨rfl,_,rfl,.int _⟩)⟩
  ·cases e
 ·split at e
  ·rename_i hc
   cases e
   simp only[sy,decide_eq_true_eq]at hc
   obtain⟨a1,u1,x1,q1,i1⟩:=fr.items (k:=1) rfl e1 hc.2
   cases x1;cases r2
   have l1:=i1.len
   exact .inr ⟨_,_,_,rfl,rfl,q1,by omega,by omega,fW (by rw[l1];exact hc.1.1),fun p hp=>q _ _ (fr.res2l (i1.rep _) hp)⟩
  ·cases e
 ·cases e
section
variable {X:Cx} {a b:Expr} {m1 m2:Bool} {f g:bH} {pos:Pos}
theorem fw(ha:EX X a m1 f)(hb:EX X b m2 g):EX X (.BinOp a .Add b pos) (m1||m2) (ag ck m2 f g):=n8 vX BB ha hb
theorem D1(ha:EX X a m1 f)(hb:EX X b m2 g):EX X (.BinOp a .Sub b pos) (m1||m2) (ag uO m2 f g):=n8 BC (qY fun _ _=>rfl) ha hb
theorem yK(ha:EX X a m1 f)(hb:EX X b m2 g):EX X (.BinOp a .Mult b pos) (m1||m2) (ag sM m2 f g):=n8 BE BF ha hb
theorem fk(ha:EX X a m1 f)(hb:EX X b m2 g):EX X (.BinOp a .FloorDiv b pos) (m1||m2) (ag bo m2 f g):=n8 yJ (qY fun _ _=>rfl) ha hb
theorem fc(ha:EX X a m1 f)(hb:EX X b m2 g):EX X (.BinOp a .Mod b pos) (m1||m2) (ag b7 m2 f g):=n8 BD (qY fun _ _=>rfl) ha hb
end
def GU(K:Frag)(r:V→Hp→VK→Prop)(op:PyData→Option PyData):Prop:=∀(d1 d:PyData) (v1:V) (H:Hp) (Q:VK),op d1=some d→Rp K H v1 d1→∃v,CV d=some v∧(Q v H→r v1 H Q)
def iP(op:PyData→Option PyData)(f:bH):bH:=fun E=>(f E).bind fun a=>(look a.2 a.1).bind fun d1=>(op d1).map fun d=>(.sh d,a.2)
theorem FD{K:Frag}{r:V→Hp→VK→Prop}{op:PyData→Option PyData}(hp:GU K r op){m:Bool}{f:bH}{σ:mX}{H:Hp}{Q:VK}(h:rd K m (iP op f) σ H Q):rd K m f σ H (fun x H1=>r x H1 Q):=by
 obtain⟨B,E,xs,Xs,res,E',fr,c,e,q⟩:=h
 obtain⟨⟨s1,E1⟩,e1,e⟩:=Za.mp e
 obtain⟨d1,e2,e⟩:=Za.mp e
 obtain⟨d,e3,e⟩:=Zad.mp e
 cases e
 refine⟨B,E,xs,Xs,s1,E1,fr,c,e1,fun v1 H1 ⟨F,A,fr1⟩=>?_⟩
 obtain⟨v,hv,k⟩:=hp d1 d v1 H1 Q e3 (fr1.look0 e2).1
 obtain⟨A',fr2⟩:=fr1.pop
 exact k (q v H1 ⟨F,A',fr2.push ⟨rfl,v,rfl,n6 hv⟩⟩)
def nr:PyData→Option PyData
 |.int i=>some (.int (-i))
 |_=>none
section
variable {X:Cx} {a b c:Expr} {m1 m2 m3:Bool} {f g h:bH} {pos:Pos}
theorem yL(ha:EX X a m1 f):EX X (.UnaryOp .USub a pos) m1 (iP nr f):=bW (Fh DI ha) fun σ H Q h=>FD (r:=rU fun i=>.int (-i)) (fun d1 d v1 H Q e r=>by
 cases d1 <;> simp[nr]at e
 cases e;cases r
 exact⟨_,rfl,fun q=>⟨_,rfl,q⟩⟩) h
end
def AM(d1 d2:PyData):Option Bool:=match d1,d2 with
 |.int i,.int j=>some (decide (i=j))
 |.str a,.str b=>some (decide (a=b))
 |.bool a,.bool b=>some (decide (a=b))
 |.none,.none=>some true
 |.none,.str _=>some false
 |.str _,.none=>some false
 |d1,d2=>if SeqAt.shaped d1&&SeqAt.shaped d2 then some (PyData.eqv d1 d2)else none
def jl:P2:=fu fun d1 d2=>(AM d1 d2).map fun b=>.bool b
def w6:P2:=fu fun d1 d2=>(AM d1 d2).map fun b=>.bool (!b)
abbrev GV(K:Frag):R2:=fun x y H Q=>Hj x y H Q∨Fy K x y H Q
abbrev GW(K:Frag):R2:=fun x y H Q=>Hk x y H Q∨Fz K x y H Q
theorem yM{K:Frag}{H:Hp}{v1 v2:V}{d1 d2:PyData}{b:Bool}(e:AM d1 d2=some b)(r1:Rp K H v1 d1)(r2:Rp K H v2 d2):
  (DJ v1 v2=true∧decide (v1=v2)=b)∨(DOf K H v1 d1∧DOf K H v2 d2∧SeqAt.shaped d1=true∧SeqAt.shaped d2=true∧PyData.eqv d1 d2=b):=by
 unfold AM at e
 split at e
 ·cases e;cases r1;cases r2;exact .inl ⟨rfl,by simp⟩
 ·cases e;cases r1;cases r2;exact .inl ⟨rfl,by simp⟩
 ·cases e;cases r1;cases r2;exact .inl ⟨rfl,by simp⟩
 ·cases e;cases r1;cases r2;exact .inl ⟨rfl,rfl⟩
 ·cases e;cases r1;cases r2;exact .inl ⟨rfl,rfl⟩
 ·cases e;cases r1;cases r2;exact .inl ⟨rfl,rfl⟩
 ·split at e
  ·rename_i hs
   cases e
   simp only[sy]at hs
   exact .inr ⟨r1.dof hs.1,r2.dof hs.2,hs.1,hs.2,rfl⟩
  ·cases e
theorem yN{K:Frag}:iH K (GV K) jl:=kI fun d1 d2 d v1 v2 H Q e r1 r2=>by
 obtain⟨b,e',rfl⟩:=Zad.mp e
 refine⟨_,rfl,fun q=>?_⟩
 rcases yM e' r1 r2 with⟨a,rfl⟩ |⟨a1,a2,a3,a4,rfl⟩
 ·exact .inl ⟨a,q⟩
 ·exact .inr ⟨_,_,a1,a2,a3,a4,q⟩
theorem D2{K:Frag}:iH K (GW K) w6:=kI fun d1 d2 d v1 v2 H Q e r1 r2=>by
 obtain⟨b,e',rfl⟩:=Zad.mp e
 refine⟨_,rfl,fun q=>?_⟩
 rcases yM e' r1 r2 with⟨a,rfl⟩ |⟨a1,a2,a3,a4,rfl⟩
 ·exact .inl ⟨a,q⟩
 ·exact .inr ⟨_,_,a1,a2,a3,a4,q⟩
def w_(K:Frag)(r:R2)(op:PyData→PyData→Option PyData):Prop:=∀(d1 d2 d:PyData) (v1 v2:V) (H:Hp) (Q:VK),op d1 d2=some d→Rp K H v1 d1→Rp K H v2 d2→∃v,CV d=some v∧(Q v H→r v1 v2 H Q)
def kJ(op op':PyData→PyData→Option PyData)(m2 m3:Bool)(f g h:bH):bH:=fun E=>(f E).bind fun a=>if (m2||m3)&&a.1.isBr then none else (g a.2).bind fun b=>if m3&&b.1.isBr then none else
 (look b.2 a.1).bind fun d1=>(look b.2 b.1).bind fun d2=>match op d1 d2 with
  |some (.bool true)=>(h b.2).bind fun c=>(look c.2 b.1).bind fun d2=>(look c.2 c.1).bind fun d3=>(op' d2 d3).map fun d=>(.sh d,c.2)
  |some (.bool false)=>some (.sh (.bool false),b.2)
  |_=>none
section
variable {X:Cx} {a b c:Expr} {m1 m2 m3:Bool} {f g h:bH} {pos:Pos}
theorem kn(hu:X.A.units+64 < cLine)(ha:EX X a m1 f)(hb:EX X b m2 g):EX X (.Compare a [.Eq] [b] pos) (m1||m2) (ag jl m2 f g):=DY (OpR.or CQ (yD hu)) yN ha hb (qL _)
theorem vY(hu:X.A.units+64 < cLine)(ha:EX X a m1 f)(hb:EX X b m2 g):TX X (.Compare a [.Eq] [b] pos) (m1||m2) (gS (ag jl m2 f g)):=mh (OpR.or CQ (yD hu)) yN ha hb (qL _)
theorem C4(hu:X.A.units+64 < cLine)(ha:EX X a m1 f)(hb:EX X b m2 g):TX X (.Compare a [.NotEq] [b] pos) (m1||m2) (gS (ag w6 m2 f g)):=mh (OpR.or Fi (DT hu)) D2 ha hb (qL _)
theorem yO{K:Frag}{r r':R2}{op op':PyData→PyData→Option PyData}(k:w_ K r op)(k':w_ K r' op'){σ:mX}{H:Hp}{Q:VK}(z:rd K (m1||(m2||m3)) (kJ op op' m2 m3 f g h) σ H Q):yp r r' (rd K m1 f) (rd K m2 g) (rd K m3 h) σ H Q:=by
 obtain⟨B,E,xs,Xs,res,E',fr,cl,e,q⟩:=z
 obtain⟨⟨s1,E1⟩,e1,e⟩:=Za.mp e
 by_cases hb:((m2||m3)&&s1.isBr)=true
 ·rw[if_pos hb]at e;cases e
 rw[if_neg hb]at e
 obtain⟨⟨s2,E2⟩,e2,e⟩:=Za.mp e
 by_cases hb2:(m3&&s2.isBr)=true
 ·rw[if_pos hb2]at e;cases e
 rw[if_neg hb2]at e
 obtain⟨d1,l1,e⟩:=Za.mp e
 obtain⟨d2,l2,e⟩:=Za.mp e
 have n1:(m2||m3)=true→s1.isBr=false:=fun z=>by
  cases hs:s1.isBr with
  |false=>rfl
  |true=>exact absurd (by rw[z,hs];rfl) hb
 have n2:m3=true→s2.isBr=false:=fun z=>by
  cases hs:s2.isBr with
  |false=>rfl
  |true=>exact absurd (by rw[z,hs];rfl) hb2
 refine⟨B,E,xs,Xs,s1,E1,fr,fun z=>cl (by simp[z]),e1,fun v1 H1 fr1=>?_⟩
 refine⟨B,E1,v1::xs,s1::Xs,s2,E2,fr1,fun z=>Calm.cons (cl (by simp[z])) (n1 (by simp[z])),e2,fun v2 H2 ⟨F,A,fr2⟩=>?_⟩
 cases ho:op d1 d2 with
 |none=>rw[ho]at e;cases e
 |some d=>
  rw[ho]at e
  obtain⟨v,hv,kk⟩:=k d1 d2 d v1 v2 H2 (fun z H3=>∃k,z=.bl k∧(if k=true then rd K m3 h σ H3 fun w' H4=>r' v2 w' H4 Q else Q (.bl false) H3)) ho (fr2.look1 l1).1 (fr2.look0 l2).1
  cases d with
  |bool t=>
   cases hv
   refine kk ⟨t,rfl,?_⟩
   cases t with
   |true=>
    rw[if_pos rfl]
    obtain⟨⟨s3,E3⟩,e3,e⟩:=Za.mp e
    obtain⟨d2',l2',e⟩:=Za.mp e
    obtain⟨d3,l3,e⟩:=Za.mp e
    obtain⟨d,ho',e⟩:=Zad.mp e
    cases e
    refine⟨B,E2,v2::v1::xs,s2::s1::Xs,s3,E3,⟨F,A,fr2⟩,fun z=>Calm.cons (Calm.cons (cl (by simp[z])) (n1 (by simp[z]))) (n2 z),e3,fun v3 H3 ⟨F3,A3,fr3⟩=>?_⟩
    obtain⟨v,hv,kk⟩:=k' d2' d3 d v2 v3 H3 Q ho' (fr3.look1 l2').1 (fr3.look0 l3).1
    obtain⟨A4,fr4⟩:=fr3.pop
    exact kk (q v H3 (fr4.res2 ⟨rfl,v,rfl,n6 hv⟩))
   |false=>
    rw[if_neg (by decide)]
    cases e
    exact q _ _ (fr2.res2 ⟨rfl,_,rfl,.bl _⟩)
  |none=>cases e
  |int i=>cases e
  |str x=>cases e
  |list xs=>cases e
  |tuple xs=>cases e
  |dict kvs=>cases e
theorem yP{o1 o2:CmpOp}{r r':R2}{op op':PyData→PyData→Option PyData}(ho:OpR X (compareOp o1) r)(ho':OpR X (compareOp o2) r')(k:w_ X.K r op)(k':w_ X.K r' op')(ha:EX X a m1 f)(hb:EX X b m2 g)(hc:EX X c m3 h)
  (hm:lastMarks [o1,o2] [b,c]=false:=by with_unfolding_all rfl):EX X (.Compare a [o1,o2] [b,c] pos) (m1||(m2||m3)) (kJ op op' m2 m3 f g h):=bW (yq ho ho' ha hb hc hm) fun _ _ _ z=>yO k k' z
end
end PL
namespace PL
open PySem L2 Nh
def i_(f g:bH):bH:=fun E=>(f E).bind fun a=>match a.1 with
 |.sh (.bool true)=>g a.2
 |.sh (.bool false)=>some (.sh (.bool false),a.2)
 |_=>none
def jt(f g:kG):kG:=fun E=>(f E).bind fun a=>if a.1 then g a.2 else some (false,a.2)
def yQ(f g:kG):kG:=fun E=>(f E).bind fun a=>if a.1 then some (true,a.2)else g a.2
def cG(f:kG):kG:=fun E=>(f E).map fun a=>(!a.1,a.2)
def ix:PyData→Option Bool
 |.none=>some false
 |.bool b=>some b
 |.int i=>some (i != 0)
 |.str x=>if x.length≤1000000 then some ((x.length:Int) != 0)else none
 |.list xs=>some (!xs.isEmpty)
 |.tuple xs=>some (!xs.isEmpty)
 |.dict _=>none
def dh(f:bH):kG:=fun E=>(f E).bind fun a=>match a.1 with
 |.al i=>match a.2[i]? with
  |some (.od kvs)=>some (!kvs.isEmpty,a.2)
  |some s=>(s.val.bind ix).map fun b=>(b,a.2)
  |none=>none
 |s=>(s.val.bind ix).map fun b=>(b,a.2)
section
variable {X:Cx} {a b c:Expr} {eN:List Expr} {m1 m2 m3:Bool} {f g h:bH} {t u:kG} {pos:Pos} {K:Frag}
theorem qZ{op}(h:EX X a m1 f):EX X (.BoolOp op [a] pos) m1 f:=Du h
theorem n_(ha:EX X a m1 f)(hb:EX X (.BoolOp .And (b::eN) pos) m2 g):EX X (.BoolOp .And (a::b::eN) pos) (m1||m2) (i_ f g):=by
 refine bW (Dv ha hb) fun σ H Q z=>?_
 obtain⟨B,E,xs,Xs,res,E',fr,cl,e,q⟩:=z
 obtain⟨⟨s1,E1⟩,e1,e⟩:=Za.mp e
 refine⟨B,E,xs,Xs,s1,E1,fr,fun z=>cl (by simp[z]),e1,fun v1 H1 ⟨F,A,fr1⟩=>?_⟩
 simp only at e
 split at e
 ·obtain⟨r,_⟩:=fr1.look0 (d:=.bool true) rfl
  cases r
  obtain⟨A',fr2⟩:=fr1.pop
  exact⟨true,rfl,(if_pos rfl).mpr ⟨B,E1,xs,Xs,res,E',⟨F,A',fr2⟩,fun z=>cl (by simp[z]),e,q⟩⟩
 ·cases e
  obtain⟨r,_⟩:=fr1.look0 (d:=.bool false) rfl
  cases r
  exact⟨false,rfl,(if_neg (by decide)).mpr (q _ _ ⟨F,A,fr1⟩)⟩
 ·cases e
theorem vZ(ha:TX X a m1 t):WX X (.BoolOp .And [a] pos) m1 t:=AV ha
theorem yR(ha:TX X a m1 t):WX X (.BoolOp .Or [a] pos) m1 t:=Dr ha
theorem yS(ha:TX X a m1 t)(hb:WX X (.BoolOp .And (b::eN) pos) m2 u):WX X (.BoolOp .And (a::b::eN) pos) (m1||m2) (jt t u):=by
 refine yG (Ds ha hb) fun σ H Q z=>?_
 obtain⟨B,E,xs,Xs,res,E',fr,cl,e,q⟩:=z
 obtain⟨⟨b1,E1⟩,e1,e⟩:=Za.mp e
 refine⟨B,E,xs,Xs,b1,E1,fr,fun z=>cl (by simp[z]),e1,fun H1 fr1=>?_⟩
 cases b1 with
 |true=>exact(if_pos rfl).mpr ⟨B,E1,xs,Xs,res,E',fr1,fun z=>cl (by simp[z]),e,q⟩
 |false=>cases e;exact(if_neg (by decide)).mpr (q _ fr1)
theorem C5(ha:TX X a m1 t)(hb:WX X (.BoolOp .Or (b::eN) pos) m2 u):WX X (.BoolOp .Or (a::b::eN) pos) (m1||m2) (yQ t u):=by
 refine yG (E7 ha hb) fun σ H Q z=>?_
 obtain⟨B,E,xs,Xs,res,E',fr,cl,e,q⟩:=z
 obtain⟨⟨b1,E1⟩,e1,e⟩:=Za.mp e
 refine⟨B,E,xs,Xs,b1,E1,fr,fun z=>cl (by simp[z]),e1,fun H1 fr1=>?_⟩
 cases b1 with
 |true=>cases e;exact(if_pos rfl).mpr (q _ fr1)
 |false=>exact(if_neg (by decide)).mpr ⟨B,E1,xs,Xs,res,E',fr1,fun z=>cl (by simp[z]),e,q⟩
theorem BG(h:WX X a m1 t):TX X a m1 t:=PW.pt h
theorem dP(ha:TX X a m1 t):TX X (.UnaryOp .Not a pos) m1 (cG t):=by
 refine uN (Dt ha) fun σ H Q z=>?_
 obtain⟨B,E,xs,Xs,res,E',fr,cl,e,q⟩:=z
 obtain⟨⟨b1,E1⟩,e1,e⟩:=Zad.mp e
 cases e
 exact⟨B,E,xs,Xs,b1,E1,fr,cl,e1,fun H1 fr1=>q _ fr1⟩
theorem D3{H:Hp}{v:V}{d:PyData}{b:Bool}(r:Rp K H v d)(e:ix d=some b):yr K v H b:=by
 cases r with
 |non=>cases e;rfl
 |bl b=>cases e;rfl
 |int i=>cases e;rfl
 |str x=>
  simp only[ix]at e
  split at e
  ·rename_i hl
   cases e
   exact⟨fW hl,rfl⟩
  ·cases e
 |lst h r=>cases e;exact .inl ⟨_,h,by cases r <;> rfl⟩
 |tup h r=>cases e;exact .inr (.inl ⟨_,h,by cases r <;> rfl⟩)
 |dct h r=>cases e
 |exc h r=>cases e
theorem cY(ha:EX X a m1 f)(he:∀whole,isTrue a X.env whole=(do let v ←whole;standAt a.pos;holding [v] (truthy v)):=by exact fun _=>rfl):TX X a m1 (dh f):=by
 refine uN (yt ha he) fun σ H Q z=>?_
 obtain⟨B,E,xs,Xs,res,E',fr,cl,e,q⟩:=z
 obtain⟨⟨s,E1⟩,e1,e⟩:=Za.mp e
 refine⟨B,E,xs,Xs,s,E1,fr,cl,e1,fun v1 H1 ⟨F,A,fr1⟩=>?_⟩
 have key:∀d,look E1 s=some d→(ix d).map (fun b=>(b,E1))=some (res,E')→∃k,yr X.K v1 H1 k∧Q k H1:=fun d l e=>by
  obtain⟨b,e',z⟩:=Zad.mp e
  cases z
  obtain⟨A',fr2⟩:=fr1.pop
  exact⟨_,D3 (fr1.look0 l).1 e',q _ ⟨F,A',fr2⟩⟩
 have kv:(s.val.bind ix).map (fun b=>(b,E1))=some (res,E')→(∀i,s≠ .al i)→∃k,yr X.K v1 H1 k∧Q k H1:=fun e na=>by
  obtain⟨b,e',z⟩:=Zad.mp e
  obtain⟨d,e1,e2⟩:=Za.mp e'
  refine key d ?_ (by rw[e2];exact congrArg some z)
  cases s <;> first |exact e1 |exact absurd rfl (na _)
 simp only at e
 split at e
 ·rename_i i
  split at e
  ·rename_i kvs ei
   cases e
   obtain⟨v',A1,ev,rfl,w,ew,hw⟩:=fr1.ext (k:=0) rfl
   cases ev;cases ew
   obtain⟨o,A1,eo,l,us,A2,rfl,_,hl,r⟩:=fr1.var ei
   rw[hw]at eo
   cases eo
   obtain⟨A',fr2⟩:=fr1.pop
   exact⟨_,.inr (.inr ⟨_,hl,by cases us <;> cases kvs <;> first |rfl |exact False.elim r⟩),q _ ⟨F,A',fr2⟩⟩
  ·rename_i s' _ ei
   obtain⟨b,e',z⟩:=Zad.mp e
   obtain⟨d,e1,e2⟩:=Za.mp e'
   exact key d (by simp[look,ei,e1]) (by rw[e2];exact congrArg some z)
  ·cases e
 ·rename_i na
  exact kv e na
end
def aj:ln:=fun E=>some ([],E)
def ad(m2:Bool)(f:bH)(g:ln):ln:=fun E=>(f E).bind fun a=>if m2&&a.1.isBr then none else (g a.2).map fun b=>(a.1::b.1,b.2)
def bi:lq:=fun E=>some ([],E)
def ak(f:bH)(g:lq):lq:=fun E=>(f E).bind fun a=>(frz a.2 a.1).bind fun b=>(g b.2).map fun c=>(b.1::c.1,c.2)
def gJ(f:lq):bH:=fun E=>(f E).bind fun a=>if a.1.length≤1000000 then some (.sh (.tuple a.1),a.2)else none
def cQ(f:lq):bH:=fun E=>(f E).bind fun a=>if a.1.length≤1000000 then some (.ow a.1,a.2)else none
section
variable {X:Cx} {e:Expr} {es:List Expr} {m1 m2:Bool} {f:bH} {g:ln} {d:lq} {pos:Pos} {K:Frag}
theorem ar:AX X [] false aj:=by
 refine qW gy fun σ H Q z=>?_
 obtain⟨B,E,xs,Xs,res,E',fr,cl,e,q⟩:=z
 cases e
 exact q [] H rfl fr
theorem ah(ha:EX X e m1 f)(hr:AX X es m2 g)(hs:starEach (e::es) X.env=(false,eval e X.env)::starEach es X.env:=by rfl):AX X (e::es) (m1||m2) (ad m2 f g):=by
 refine qW (eI ha hr hs) fun σ H Q z=>?_
 obtain⟨B,E,xs,Xs,res,E',fr,cl,e,q⟩:=z
 obtain⟨⟨s,E1⟩,e1,e⟩:=Za.mp e
 by_cases hb:(m2&&s.isBr)=true
 ·rw[if_pos hb]at e;cases e
 rw[if_neg hb]at e
 obtain⟨⟨rs,E2⟩,e2,e⟩:=Zad.mp e
 cases e
 refine⟨B,E,xs,Xs,s,E1,fr,fun z=>cl (by simp[z]),e1,fun v1 H1 fr1=>?_⟩
 refine⟨B,E1,v1::xs,s::Xs,rs,E2,fr1,fun z=>Calm.cons (cl (by simp[z])) ?_,e2,fun vs H2 hl fr2=>?_⟩
 ·cases hs:s.isBr with
  |false=>rfl
  |true=>exact absurd (by simp[z,hs]) hb
 ·exact q (v1::vs) H2 (by simp[hl]) (by simpa using fr2)
theorem D4:DX X [] false bi:=by
 refine qW gy fun σ H Q z=>?_
 obtain⟨B,E,xs,Xs,res,E',fr,cl,e,q⟩:=z
 cases e
 exact q [] H rfl fr
theorem BH(ha:EX X e m1 f)(hr:DX X es m2 d)(hs:starEach (e::es) X.env=(false,eval e X.env)::starEach es X.env:=by rfl):DX X (e::es) (m1||m2) (ak f d):=by
 refine qW (eI ha hr hs) fun σ H Q z=>?_
 obtain⟨B,E,xs,Xs,res,E',fr,cl,e,q⟩:=z
 obtain⟨⟨s,E1⟩,e1,e⟩:=Za.mp e
 obtain⟨⟨d1,E2⟩,e2,e⟩:=Za.mp e
 obtain⟨⟨rs,E3⟩,e3,e⟩:=Zad.mp e
 cases e
 refine⟨B,E,xs,Xs,s,E1,fr,fun z=>cl (by simp[z]),e1,fun v1 H1 ⟨F,A,fr1⟩=>?_⟩
 obtain⟨F2,A2,fr2⟩:=fr1.frz0 e2
 refine⟨B,E2,v1::xs,.sh d1::Xs,rs,E3,⟨F2,A2,fr2⟩,fun z=>Calm.cons (cl (by simp[z])) rfl,e3,fun vs H2 hl fr2=>?_⟩
 exact q (v1::vs) H2 (by simp[hl]) (by simpa using fr2)
theorem FrF.shsR{B F:Hp}{σ:mX}{H:Hp}{E:List Sl}{xs:List V}{Xs:List Sl}:∀{us:List V} {es:List PyData} {A:List Addr},us.length=es.length→FrF K B F A σ H E (us++xs) (es.map .sh++Xs)→RpA K F us es∧∃A',FrF K B F A' σ H E xs Xs
 |[],[],A,_,h=>⟨.nil,A,h⟩
 |u::us,e::es,A,hl,h=>by
  obtain⟨v,A1,ev,rfl,w,ew,r⟩:=h.ext (k:=0) rfl
  cases ev;cases ew
  obtain⟨A',h'⟩:=FrF.pop (xs:=us++xs) (Xs:=es.map .sh++Xs) h
  obtain⟨r',q⟩:=FrF.shsR (by simpa using hl) h'
  exact⟨.cons r r',q⟩
 |[],_::_,_,e,_=>by cases e
 |_::_,[],_,e,_=>by cases e
theorem FrF.shs{B F:Hp}{σ:mX}{H:Hp}{E:List Sl}{xs:List V}{Xs:List Sl}{us:List V}{es:List PyData}{A:List Addr}(hl:us.length=es.length)(h:FrF K B F A σ H E (us.reverse++xs) (es.reverse.map .sh++Xs)):RpA K F us es∧∃A',FrF K B F A' σ H E xs Xs:=by
 obtain⟨r,q⟩:=FrF.shsR (by simpa using hl) h
 have:=r.rev
 rw[List.reverse_reverse,List.reverse_reverse]at this
 exact⟨this,q⟩
theorem D5{x1}(h:DX X es m1 d):EX X (.Tuple es x1 pos) m1 (gJ d):=by
 refine bW (DM h) fun σ H Q z=>?_
 obtain⟨B,E,xs,Xs,res,E',fr,cl,e,q⟩:=z
 obtain⟨⟨ds,E1⟩,e1,e⟩:=Za.mp e
 simp only at e
 split at e
 ·rename_i hl
  cases e
  refine⟨B,E,xs,Xs,ds,_,fr,cl,e1,fun vs H1 hv ⟨F,A,fr1⟩=>?_⟩
  obtain⟨r,A',fr2⟩:=fr1.shs hv
  exact⟨fW (by omega),fun p hp=>q _ _ ⟨_,_,fr2.newt r hp⟩⟩
 ·cases e
theorem D6(h:DX X es m1 d):EX X (.List es pos) m1 (cQ d):=by
 refine bW (yw h) fun σ H Q z=>?_
 obtain⟨B,E,xs,Xs,res,E',fr,cl,e,q⟩:=z
 obtain⟨⟨ds,E1⟩,e1,e⟩:=Za.mp e
 simp only at e
 split at e
 ·rename_i hl
  cases e
  refine⟨B,E,xs,Xs,ds,_,fr,cl,e1,fun vs H1 hv ⟨F,A,fr1⟩=>?_⟩
  obtain⟨r,A',fr2⟩:=fr1.shs hv
  exact⟨fW (by omega),fun p hp=>q _ _ ⟨_,_,fr2.newl r hp⟩⟩
 ·cases e
end
def fS(ds:List PyData)(lo hi:Option Int):List PyData:=(ds.drop (HT.pG ds.length 0 lo)).take (HT.pG ds.length ds.length hi - HT.pG ds.length 0 lo)
def lr:P2:=fun E s1 s2=>(look E s1).bind fun d1=>(look E s2).bind fun d2=>match d2 with
 |.int i=>match d1 with
  |.list ds=>(atI ds i).map fun d=>(if gZ E s1&& !cT d then .br d else .sh d,E)
  |.tuple ds=>(atI ds i).map fun d=>(if gZ E s1&& !cT d then .br d else .sh d,E)
  |.str z=>if z.length≤1000000 then (atI z.cps.toList i).map fun c=>(.sh (.str ⟨#[c]⟩),E)else none
  |_=>none
 |_=>none
section
variable {K:Frag} {H:Hp}
theorem RpA.atI{vs:List V}{ds:List PyData}{i:Int}{d:PyData}(h:RpA K H vs ds)(e:L2.atI ds i=some d):∃v,L2.atI vs i=some v∧Rp K H v d:=by
 unfold L2.atI at e ⊢
 obtain⟨j,e1,e2⟩:=Za.mp e
 obtain⟨v,ev,r⟩:=h.get e2
 exact⟨v,by rw[h.len,e1];exact ev,r⟩
theorem FrF.item{B F:Hp}{A:List Addr}{σ:mX}{E:List Sl}{xs:List V}{Xs:List Sl}{v1 v2 v:V}{s1 s2:Sl}{d:PyData}(fr:FrF K B F A σ H E (v2::v1::xs) (s2::s1::Xs))(r:Rp K H v d)(f:gZ E s1=false→Rp K F v d):
  Frm K B σ H E (v::xs) ((if gZ E s1&& !cT d then .br d else .sh d)::Xs):=by
 by_cases hc:(gZ E s1&& !cT d)=true
 ·rw[if_pos hc]
  exact fr.res2 ⟨rfl,v,rfl,r⟩
 ·rw[if_neg hc]
  refine fr.res2 ⟨rfl,v,rfl,?_⟩
  cases hh:gZ E s1 with
  |false=>exact f hh
  |true=>
   rw[hh]at hc
   exact fr.cold r (by simpa using hc)
theorem D7:iH K (Hl K) lr:=by
 intro B F A σ H E xs Xs v1 v2 s1 s2 res E' Q fr e q
 obtain⟨d1,e1,e⟩:=Za.mp e
 obtain⟨d2,e2,e⟩:=Za.mp e
 obtain⟨r1,f1⟩:=fr.look1 e1
 have r2:=(fr.look0 e2).1
 split at e
 ·cases r2
  split at e
  ·obtain⟨d,ed,e⟩:=Zad.mp e
   cases e
   cases hh:gZ E s1 with
   |false=>
    obtain⟨a,vs,rfl,h1,h2⟩:=f1 hh
    obtain⟨v,ev,rv⟩:=h2.atI ed
    have z:=fr.item (rv.same fr.fh) fun _=>rv
    rw[hh]at z q
    exact .inl ⟨_,_,_,v,rfl,rfl,h1,ev,q _ _ z⟩
   |true=>
    cases r1 with
    |lst h1 h2=>
     obtain⟨v,ev,rv⟩:=h2.atI ed
     have z:=fr.item rv fun h=>absurd (hh.symm.trans h) (by decide)
     rw[hh]at z q
     exact .inl ⟨_,_,_,v,rfl,rfl,h1,ev,q _ _ z⟩
  ·obtain⟨d,ed,e⟩:=Zad.mp e
   cases e
   cases hh:gZ E s1 with
   |false=>
    have h0:Rp K F v1 _:=f1 hh
    cases h0 with
    |tup h1 h2=>
     obtain⟨v,ev,rv⟩:=h2.atI ed
     have z:=fr.item (rv.same fr.fh) fun _=>rv
     rw[hh]at z q
     exact .inr (.inl ⟨_,_,_,v,rfl,rfl,fr.fh.tup h1,ev,q _ _ z⟩)
   |true=>
    cases r1 with
    |tup h1 h2=>
     obtain⟨v,ev,rv⟩:=h2.atI ed
     have z:=fr.item rv fun h=>absurd (hh.symm.trans h) (by decide)
     rw[hh]at z q
     exact .inr (.inl ⟨_,_,_,v,rfl,rfl,h1,ev,q _ _ z⟩)
  ·split at e
   ·rename_i hl
    obtain⟨c,ec,e⟩:=Zad.mp e
    cases e;cases r1
    exact .inr (.inr ⟨_,_,c,rfl,rfl,fW hl,ec,q _ _ (fr.res2 ⟨rfl,_,rfl,.str _⟩)⟩)
   ·cases e
  ·cases e
 ·cases e
end
end PL
namespace L2
open PySem PySem.Spec PyProof.Rows
section
variable {κ:Type} [DecidableEq κ]
def uP(kvs:List (κ×V))(k:κ):Option V:=(kvs.find? fun kv=>decide (kv.1=k)).map (·.2)
def C6(kvs:List (κ×V))(k:κ):List (κ×V):=kvs.filter fun kv=>decide (kv.1≠k)
theorem sN{p:κ×V}{r:List (κ×V)}{k:κ}(e:p.1=k):uP (p::r) k=some p.2:=by simp[uP,List.find?_cons,e]
theorem sO{p:κ×V}{r:List (κ×V)}{k:κ}(e:¬p.1=k):uP (p::r) k=uP r k:=by simp[uP,List.find?_cons,e]
theorem RelO.getD{o:Option V}{u:Option Value}{d:V}{d':Value}(r:RelO o u)(rd:RelV d d'):RelV (o.getD d) (u.getD d'):=by
 cases o with
 |none=>cases u with
  |none=>exact rd
  |some _=>exact(show False from r).elim
 |some _=>cases u with
  |none=>exact(show False from r).elim
  |some _=>exact r
theorem KV.val{kvs:List (κ×V)}{vs:List (κ×Value)}(r:KV kvs vs)(k:κ):RelO (uP kvs k) (valueAt vs k):=by
 unfold KV at r
 induction r with
 |nil=>exact True.intro
 | @cons p q ps qs h t ih=>
  obtain⟨h1,h2⟩:=h
  by_cases e:p.1=k
  ·have e':q.1=k:=h1.symm.trans e
   have b:valueAt (q::qs) k=some q.2:=by simp[valueAt,List.find?_cons,e']
   rw[sN e,b];exact h2
  ·have e':¬q.1=k:=fun z=>e (h1.trans z)
   have b:valueAt (q::qs) k=valueAt qs k:=by simp[valueAt,List.find?_cons,e']
   rw[sO e,b];exact ih
theorem KV.any{kvs:List (κ×V)}{vs:List (κ×Value)}(r:KV kvs vs)(k:κ):(kvs.any fun kv=>decide (kv.1=k))=vs.any fun kv=>decide (kv.1=k):=by
 unfold KV at r
 induction r with
 |nil=>rfl
 |cons h t ih=>rw[List.any_cons,List.any_cons,ih,h.1]
theorem KV.drop{kvs:List (κ×V)}{vs:List (κ×Value)}(r:KV kvs vs)(k:κ):KV (C6 kvs k) (without vs k):=by
 unfold KV at r ⊢
 unfold C6 without
 induction r with
 |nil=>exact .nil
 | @cons p q ps qs h t ih=>
  obtain⟨h1,h2⟩:=h
  rw[List.filter_cons,List.filter_cons]
  by_cases e:p.1=k
  ·have a:¬decide (p.1≠k)=true:=by simp[e]
   have b:¬decide (q.1≠k)=true:=by simp[h1.symm.trans e]
   rw[if_neg a,if_neg b];exact ih
  ·have e':¬q.1=k:=fun z=>e (h1.trans z)
   have a:decide (p.1≠k)=true:=by simp[e]
   have b:decide (q.1≠k)=true:=by simp[e']
   rw[if_pos a,if_pos b];exact .cons ⟨h1,h2⟩ ih
theorem KV.length{kvs:List (κ×V)}{vs:List (κ×Value)}(r:KV kvs vs):kvs.length=vs.length:=Paired.length r
end
abbrev KT(H:Hp):List (List iC×V)→List (List iC×Addr×Value)→Prop:=Paired fun p q=>p.1=q.1∧H q.2.1=some (.tup (p.1.map kV))∧RelV p.2 q.2.2
theorem KT.val{H:Hp}{kvs:List (List iC×V)}{xs:List (List iC×Addr×Value)}(r:KT H kvs xs)(k:List iC):RelO (uP kvs k) ((atKey xs k).map (·.2)):=by
 induction r with
 |nil=>exact True.intro
 | @cons p q ps qs h t ih=>
  obtain⟨h1,_,h2⟩:=h
  by_cases e:p.1=k
  ·have e':q.1=k:=h1.symm.trans e
   have b:atKey (q::qs) k=some q.2:=by simp[atKey,List.find?_cons,e']
   rw[sN e,b];exact h2
  ·have e':¬q.1=k:=fun z=>e (h1.trans z)
   have b:atKey (q::qs) k=atKey qs k:=by simp[atKey,List.find?_cons,e']
   rw[sO e,b];exact ih
theorem KT.keeps{H H':Hp}{kvs:List (List iC×V)}{xs:List (List iC×Addr×Value)}(r:KT H kvs xs)(ht:∀b ys,H b=some (.tup ys)→H' b=some (.tup ys)):KT H' kvs xs:=
 Paired.mapP r fun _ _ z=>⟨z.1,ht _ _ z.2.1,z.2.2⟩
section
variable {P:Program} {w:World} {H:Hp} {h:Heap} {a:Addr}
theorem FE{u:HO}(ok:HOk P w H h)(e:Rd H a u):ObjOk P w H h a u:=e.ok ok
theorem FG{kvs:List (iC×V)}(ok:HOk P w H h)(e:Rd H a (.dK kvs)):kvs.length≤sizeLine∧(a == sysModules)=false∧∃vs,KV kvs vs∧h.DictOf (nJ P w) a vs:=
 show ObjOk P w H h a (.dK kvs)from FE ok e
end
section
variable {X:Cx} {pins:List (Addr×Obj)} {σ:St} {H:Hp} {s:Shared} {a:Addr} {y v:V} {u r:Value} {o:Option V} {A:Around} {E:Value→Shared→Prop}
theorem Inv.big(I:Inv X pins σ H s):sysModules < s.heap.objs.size:=by
 have h:mainGlobals < s.heap.objs.size:=(I.mod.glob.keeps I.bk).lt
 exact Nat.lt_trans (by decide) h
end
theorem yT{P:Program}{w:World}{H:Hp}(h:Heap)(hb:sysModules < h.objs.size):ObjOk P w H (h.push {cls:=.type "dict",data:=.dict #[]}) h.objs.size (.dK []):=
 ⟨Nat.zero_le _,beq_eq_false_iff_ne.mpr (Ne.symm (gI hb)),[],.nil,Heap.DictOf.new h⟩
def D8:TE:=fun _ H Q=>∀p,H p=none→Q (.ref p) (upd H p (.dK []))
section
variable {X:Cx} {pos:Pos}
theorem yU:PE X (.Dict [] [] pos) D8:=fun pins s σ H Q I h=>
 wpAny_Dict_empty ⟨.ref s.heap.objs.size,_,I.laid (a:=s.heap.objs.size) (o:=.dK []) (t':=s.toks) (fun _ _ q=>gw _ q) (fQ _) (yT s.heap I.big),rfl,h _ (I.hok.fresh (fQ _))⟩
end
end L2
namespace PL
open PySem L2 Nh
theorem ko{X:Cx}{a b:Expr}{m1 m2:Bool}{f g:bH}{pos:Pos}(ha:EX X a m1 f)(hb:EX X b m2 g)(hs:vO b:=by exact fun _ _=>rfl):EX X (.Subscript a b pos) (m1||m2) (ag lr m2 f g):=bW (Fr DP ha hb hs) fun _ _ _ h=>qX D7 h
abbrev D9:=List Sl→Option (Option Int×List Sl)
def ro(K:Frag)(m:Bool)(f:D9):TO:=fun σ H Q=>∃B E xs Xs o E',Frm K B σ H E xs Xs∧(m=true→Calm Xs)∧f E=some (o,E')∧∀H',Frm K B σ H' E' xs Xs→Q o H'
def OX(X:Cx)(e:Option Expr)(m:Bool)(f:D9):Prop:=PO X e (ro X.K m f)
def cH:D9:=fun E=>some (none,E)
def cI(f:bH):D9:=fun E=>(f E).bind fun a=>match look a.2 a.1 with
 |some (.int i)=>some (some i,a.2)
 |_=>none
section
variable {X:Cx} {e:Expr} {lo hi:Option Expr} {m1 m2 m3:Bool} {f:bH} {g h:D9} {pos p2:Pos} {K:Frag}
theorem yV{e:Option Expr}{t t':TO}(h:PO X e t)(k:∀σ H Q,t' σ H Q→t σ H Q):PO X e t':=fun pins s σ H Q I q=>h pins s σ H Q I (k σ H Q q)
theorem iQ:OX X none false cH:=yV Bk fun σ H Q z=>by
 obtain⟨B,E,xs,Xs,res,E',fr,cl,e,q⟩:=z
 cases e
 exact q _ fr
theorem iR(he:EX X e m1 f):OX X (some e) m1 (cI f):=yV (Bl he) fun σ H Q z=>by
 obtain⟨B,E,xs,Xs,res,E',fr,cl,e,q⟩:=z
 obtain⟨⟨s,E1⟩,e1,e⟩:=Za.mp e
 refine⟨B,E,xs,Xs,s,E1,fr,cl,e1,fun v1 H1 ⟨F,A,fr1⟩=>?_⟩
 simp only at e
 split at e
 ·rename_i i l
  cases e
  have r:=(fr1.look0 l).1
  cases r
  obtain⟨A',fr2⟩:=fr1.pop
  exact⟨i,rfl,q _ ⟨F,A',fr2⟩⟩
 ·cases e
theorem RpA.cut{F:Hp}{vs:List V}{ds:List PyData}(h:RpA K F vs ds)(lo hi:Option Int):RpA K F (wY vs lo hi) (fS ds lo hi):=by
 unfold wY fS
 rw[h.len]
 exact(h.drop _).take _
end
def cJ(E:List Sl):List Sl→Option (List PyData)
 |[]=>some []
 |s::ss=>(look E s).bind fun d=>(cJ E ss).map fun ds=>d::ds
theorem lookA_iff{E:List Sl}:∀{ss:List Sl} {ds:List PyData},cJ E ss=some ds↔Paired (fun s d=>look E s=some d) ss ds
 |[],ds=>⟨fun h=>by cases h;exact .nil,fun h=>by cases h;rfl⟩
 |s::ss,ds=>by
  constructor
  ·intro h
   obtain⟨d,h1,h⟩:=Za.mp h
   obtain⟨es,h2,h⟩:=Zad.mp h
   cases h
   exact .cons h1 (lookA_iff.mp h2)
  ·intro h
   cases h with
   |cons h1 h2=>simp[cJ,h1,lookA_iff.mpr h2]
theorem xa{E:List Sl}{ss:List Sl}{ds:List PyData}(h:cJ E ss=some ds):cJ E ss.reverse=some ds.reverse:=lookA_iff.mpr (kF (lookA_iff.mp h))
section
variable {X:Cx} {K:Frag} {B F:Hp} {σ:mX} {H:Hp} {E:List Sl} {xs:List V} {Xs:List Sl}
theorem FrF.looksR:∀{us:List V} {ts:List Sl} {es:List PyData} {A:List Addr},us.length=ts.length→FrF K B F A σ H E (us++xs) (ts++Xs)→cJ E ts=some es→RpA K H us es∧∃A',FrF K B F A' σ H E xs Xs
 |[],[],es,A,_,h,e=>by cases e;exact⟨.nil,A,h⟩
 |u::us,t::ts,es,A,hl,h,e=>by
  obtain⟨d,h1,e⟩:=Za.mp e
  obtain⟨es',h2,e⟩:=Zad.mp e
  cases e
  have r:=(FrF.look0 (xs:=us++xs) (Xs:=ts++Xs) h h1).1
  obtain⟨A',h'⟩:=FrF.pop (xs:=us++xs) (Xs:=ts++Xs) h
  obtain⟨r',q⟩:=FrF.looksR (by simpa using hl) h' h2
  exact⟨.cons r r',q⟩
 |[],_::_,_,_,e,_,_=>by cases e
 |_::_,[],_,_,e,_,_=>by cases e
theorem FrF.looks{us:List V}{ts:List Sl}{es:List PyData}{A:List Addr}(hl:us.length=ts.length)(h:FrF K B F A σ H E (us.reverse++xs) (ts.reverse++Xs))(e:cJ E ts=some es):RpA K H us es∧∃A',FrF K B F A' σ H E xs Xs:=by
 obtain⟨r,q⟩:=FrF.looksR (by simpa using hl) h (xa e)
 have:=r.rev
 rw[List.reverse_reverse,List.reverse_reverse]at this
 exact⟨this,q⟩
end
def D_(K:Frag)(r:List V→Hp→VK→Prop)(op:List PyData→Option PyData):Prop:=∀(ds:List PyData) (d:PyData) (vs:List V) (H:Hp) (Q:VK),op ds=some d→RpA K H vs ds→∃v,CV d=some v∧(Q v H→r vs H Q)
def gA(op:List PyData→Option PyData)(g:ln):bH:=fun E=>(g E).bind fun a=>(cJ a.2 a.1).bind fun ds=>(op ds).map fun d=>(.sh d,a.2)
theorem Ea{K:Frag}{r:List V→Hp→VK→Prop}{op:List PyData→Option PyData}(hp:D_ K r op){m:Bool}{g:ln}{σ:mX}{H:Hp}{Q:VK}(h:rd K m (gA op g) σ H Q):GK r (ra K m g) σ H Q:=by
 obtain⟨B,E,xs,Xs,res,E',fr,cl,e,q⟩:=h
 obtain⟨⟨rs,E1⟩,e1,e⟩:=Za.mp e
 obtain⟨ds,e2,e⟩:=Za.mp e
 obtain⟨d,e3,e⟩:=Zad.mp e
 cases e
 refine⟨B,E,xs,Xs,rs,E1,fr,cl,e1,fun vs H1 hl ⟨F,A,fr1⟩=>?_⟩
 obtain⟨r1,A',fr2⟩:=fr1.looks hl e2
 obtain⟨v,hv,k⟩:=hp ds d vs H1 Q e3 r1
 exact k (q v H1 ⟨F,A',fr2.push ⟨rfl,v,rfl,n6 hv⟩⟩)
def gB:List PyData→Option PyData
 |[.list xs]=>some (.int xs.length)
 |[.tuple xs]=>some (.int xs.length)
 |[.str z]=>if z.length≤1000000 then some (.int z.length)else none
 |_=>none
theorem RpA.one{K:Frag}{H:Hp}{vs:List V}{d:PyData}(h:RpA K H vs [d]):∃v,vs=[v]∧Rp K H v d:=by
 cases h with
 |cons h t=>cases t;exact⟨_,rfl,h⟩
theorem RpA.two{K:Frag}{H:Hp}{vs:List V}{d e:PyData}(h:RpA K H vs [d,e]):∃v u,vs=[v,u]∧Rp K H v d∧Rp K H u e:=by
 cases h with
 |cons h t=>
  obtain⟨u,rfl,r⟩:=t.one
  exact⟨_,_,rfl,h,r⟩
section
variable {X:Cx} {e:Expr} {es:List Expr} {m1:Bool} {g:ln} {p pos:Pos} {K:Frag}
abbrev FH(K:Frag):List V→Hp→VK→Prop:=fun xs H Q=>(∃p ys,xs=[.ref p]∧(SqL K H p ys∨SqT K H p ys)∧Q (.int ys.length) H)∨(∃z,xs=[.str z]∧z.length≤sizeLine∧Q (.int z.length) H)
theorem BI:D_ K (FH K) gB:=fun ds d vs H Q e r=>by
 unfold gB at e
 split at e
 ·cases e
  obtain⟨v,rfl,r'⟩:=r.one
  cases r' with
  |lst h1 h2=>exact⟨_,rfl,fun q=>.inl ⟨_,_,rfl,.inl h1,by rw[h2.len];exact q⟩⟩
 ·cases e
  obtain⟨v,rfl,r'⟩:=r.one
  cases r' with
  |tup h1 h2=>exact⟨_,rfl,fun q=>.inl ⟨_,_,rfl,.inr h1,by rw[h2.len];exact q⟩⟩
 ·split at e
  ·rename_i hl
   cases e
   obtain⟨v,rfl,r'⟩:=r.one
   cases r'
   exact⟨_,rfl,fun q=>.inr ⟨_,rfl,fW hl,q⟩⟩
  ·cases e
 ·cases e
theorem yW {x:Str} {id:String} {r:List V→Hp→VK→Prop} {op:List PyData→Option PyData} (hp:D_ X.K r op) (hc:CallR X (.builtin id) r) (hg:Gl X x) (hm:X.mg x=none) (hv:bootBuiltins x=some (.builtin id)) (ha:AX X (e::es) m1 g) (hn:x≠"__name__":=by decide) (hdb:(x == ("__debug__":Str))=false:=by decide)
  (he:starEach (e::es) X.env=(false,eval e X.env)::starEach es X.env:=by rfl) (hpl:(backTo pos (starEach es X.env)).any (·.1)=false:=by rfl):EX X (.Call (.Name x p) (e::es) [] pos) m1 (gA op g):=
 bW (jm hc hg hm hv ha hn hdb he hpl) fun _ _ _ h=>Ea hp h
theorem jv (hg:Gl X "len") (hm:X.mg "len"=none) (ha:AX X [e] m1 g) (he:starEach [e] X.env=[(false,eval e X.env)]:=by rfl):EX X (.Call (.Name "len" p) [e] [] pos) m1 (gA gB g):=yW BI (CallR.or qQ qR) hg hm PySem.boot_len ha (by decide) (by decide) he rfl
end
def jw(g:bH):bH:=fun E=>(g E).bind fun a=>match look a.2 a.1 with
 |some (.list ds)=>if !gZ a.2 a.1||bE ds then some (.ow ds,a.2)else none
 |some (.tuple ds)=>if !gZ a.2 a.1||bE ds then some (.ow ds,a.2)else none
 |_=>none
section
variable {X:Cx} {e:Expr} {m1:Bool} {f:bH} {p pos:Pos} {K:Frag}
theorem v6 (hg:Gl X "list") (hm:X.mg "list"=none) (ha:EX X e m1 f) (he:starEach [e] X.env=[(false,eval e X.env)]:=by rfl):EX X (.Call (.Name "list" p) [e] [] pos) m1 (jw f):=by
 refine bW (p7 qS hg hm PyProof.Rows.boot_list (eI ha gy he) (by decide) (by decide) he rfl) fun σ H Q z=>?_
 obtain⟨B,E,xs,Xs,res,E',fr,cl,e,q⟩:=z
 obtain⟨⟨s,E1⟩,e1,e⟩:=Za.mp e
 refine⟨B,E,xs,Xs,s,E1,fr,cl,e1,fun v1 H1 ⟨F,A,fr1⟩=>?_⟩
 obtain⟨A',fr2⟩:=fr1.pop
 simp only at e
 split at e
 ·rename_i ds ld
  split at e
  ·rename_i hc
   cases e
   obtain⟨a,vs,ev,h1,h2⟩:=fr1.items (k:=0) rfl ld hc
   cases ev
   exact⟨a,vs,rfl,.inl h1,fun l hl=>q _ _ ⟨F,_,fr2.newl h2 hl⟩⟩
  ·cases e
 ·rename_i ds ld
  split at e
  ·rename_i hc
   cases e
   obtain⟨r,f0⟩:=fr1.look0 ld
   cases hh:gZ E' s with
   |false=>
    have h0:Rp X.K F v1 _:=f0 hh
    cases h0 with
    |tup h1 h2=>exact⟨_,_,rfl,.inr (fr1.fh.tup h1),fun l hl=>q _ _ ⟨F,_,fr2.newl h2 hl⟩⟩
   |true=>
    rw[hh]at hc
    cases r with
    |tup h1 h2=>exact⟨_,_,rfl,.inr h1,fun l hl=>q _ _ ⟨F,_,fr2.newl (fr1.coldA h2 (by simpa using hc)) hl⟩⟩
  ·cases e
 ·cases e
end
inductive Ty where
 |non |bool |int |str |list |tuple |dict
def Ty.name:Ty→String
 |.non=>"NoneType"
 |.bool=>"bool"
 |.int=>"int"
 |.str=>"str"
 |.list=>"list"
 |.tuple=>"tuple"
 |.dict=>"dict"
def Ty.is:Ty→Ty→Bool
 |.non,.non=>true
 |.bool,.bool=>true
 |.bool,.int=>true
 |.int,.int=>true
 |.str,.str=>true
 |.list,.list=>true
 |.tuple,.tuple=>true
 |.dict,.dict=>true
 |_,_=>false
def C7:PyData→Ty
 |.none=>.non
 |.bool _=>.bool
 |.int _=>.int
 |.str _=>.str
 |.list _=>.list
 |.tuple _=>.tuple
 |.dict _=>.dict
theorem FI(K:Frag)(t n:Ty):kitOne K (.type t.name) (.type n.name)=some (t.is n):=by cases t <;> cases n <;> rfl
def oa(n:Ty):PyData→Option PyData
 |.dict ((.none,_)::_)=>none
 |d=>some (.bool ((C7 d).is n))
section
variable {X:Cx} {e:Expr} {m1:Bool} {f:bH} {p p2 pos:Pos}
theorem xb{pins:List (Addr×Obj)}{s:Shared}{σ:mX}{H:Hp}{x:V}{u:Value}{d r:PyData}{n:Ty}{A:Around}{E:Value→Shared→Prop}{Q:Value→Shared→Prop}(I:Inv X pins σ H s)(rx:RelV x u)(rp:Rp X.K H x d)(hd:oa n d=some r)(h:∀tk b,r=.bool b→Q (.bool b) {s with toks:=tk}):
  wpAny (model X.prog X.w) A (call (.builtin "isinstance") [u,.type n.name]) Q E s:=by
 have e:=FI X.K (C7 d) n
 have h:∀tk,r=.bool ((C7 d).is n)→Q (.bool ((C7 d).is n)) {s with toks:=tk}:=fun tk z=>h tk _ z
 cases rp with
 |non=>cases hd;exact jT I rx .non e fun tk=>h tk rfl
 |bl b=>cases hd;exact jT I rx (.bl b) e fun tk=>h tk rfl
 |int i=>cases hd;exact jT I rx (.int i) e fun tk=>h tk rfl
 |str y=>cases hd;exact jT I rx (.str y) e fun tk=>h tk rfl
 |lst h1 _=>
  cases hd
  cases rx
  obtain⟨its,rv,⟨o,n',e1,c,_,d⟩,_⟩:=I.list h1
  exact kia_one kitx_list I.kIn ⟨_,e1,c⟩ e (fun z=>nomatch z) fun tk=>h tk rfl
 |tup h1 _=>
  cases hd
  cases rx
  obtain⟨its,rv,⟨o,e1,c,n',d⟩,_⟩:=I.tuple h1
  exact kia_one PySem.W.kitx_tuple I.kIn ⟨_,e1,c⟩ e (fun z=>nomatch z) fun tk=>h tk rfl
 |dct h1 hk=>
  cases rx
  obtain⟨_,_,vs,_,ob,es,ep,e1,c,_⟩:=FG I.hok h1
  refine kia_one kitx_dict I.kIn ⟨_,e1,c.1⟩ e (fun z=>nomatch z) fun tk=>h tk ?_
  cases hk with
  |nil=>cases hd;rfl
  | @cons k x us d kvs a b=>cases k <;> (cases hd;rfl)
 |exc h1 h2=>cases hd
theorem xc(n:Ty):CallR X (.builtin "isinstance") (fun xs H Q=>∃x d r,xs=[x,.ty n.name]∧Rp X.K H x d∧oa n d=some r∧∀b,r=.bool b→Q (.bl b) H):=by
 intro pins s σ H xs us Q I r h
 obtain⟨x,d,r',rfl,rp,hd,q⟩:=h
 obtain⟨u,w',rfl,ru,rw'⟩:=r.two
 cases(show w'=Value.type n.name from rw')
 exact xb I ru rp hd fun tk b z=>⟨.bl _,H,I.tok _,rfl,q b z⟩
theorem q9 (n:Ty) (hg:Gl X "isinstance") (hm:X.mg "isinstance"=none) (ha:EX X e m1 f) {x:Str} (hgx:Gl X x) (hmx:X.mg x=none) (hbx:bootBuiltins x=some (.type n.name)) (hnx:x≠"__name__":=by decide) (hdx:(x == ("__debug__":Str))=false:=by decide)
  (he:starEach [e,.Name x p2] X.env=(false,eval e X.env)::starEach [.Name x p2] X.env:=by rfl) (he2:starEach [.Name x p2] X.env=[(false,eval (.Name x p2) X.env)]:=by rfl) (hpl:(backTo pos (starEach [.Name x p2] X.env)).any (·.1)=false:=by rfl):
  EX X (.Call (.Name "isinstance" p) [e,.Name x p2] [] pos) m1 (iP (oa n) f):=by
 have h2:PE X (.Name x p2) (tC (.ty n.name)):=vI (v:=.ty n.name) hgx hmx hbx rfl hnx hdx
 refine bW (jm (xc n) hg hm PyProof.Rows.boot_isinstance (eI ha (eI h2 gy he2) he) (by decide) (by decide) he hpl) fun σ H Q z=>?_
 obtain⟨B,E,xs,Xs,res,E',fr,cl,e,q⟩:=z
 obtain⟨⟨s,E1⟩,e1,e⟩:=Za.mp e
 obtain⟨d1,e2,e⟩:=Za.mp e
 obtain⟨d2,e3,e⟩:=Zad.mp e
 cases e
 refine⟨B,E,xs,Xs,s,E1,fr,cl,e1,fun v1 H1 ⟨F,A,fr1⟩=>?_⟩
 obtain⟨A',fr2⟩:=fr1.pop
 exact⟨v1,d1,d2,rfl,(fr1.look0 e2).1,e3,fun b z=>q _ _ ⟨F,A',fr2.push ⟨rfl,_,rfl,z▸ .bl b⟩⟩⟩
end
end PL
namespace PL
open PySem L2 Nh
def sP(K:Frag)(H H':Hp)(v:V):Sl→Prop
 |.sh d=>Rp K (tups H') v d
 |.ow ds=>∃l vs,v=.ref l∧H l=none∧H' l=some (.lst vs)∧RpA K (tups H') vs ds
 |.tx ps=>∃t vs A,v=.ref t∧tups H' t=some (.tup vs)∧A.Nodup∧(∀a∈A,H a=none)∧PtsOk K (tups H') H' vs ps A
 |.od kvs=>∃l us A,v=.ref l∧(l::A).Nodup∧(∀a∈l::A,H a=none)∧H' l=some (.dK us)∧DlOk K (tups H') H' us kvs A
 |.br d=>Rp K H' v d
 |_=>False
def cM(K:Frag)(c:List PyData→Option Sl):Sp:=fun vs H Q _=>∃ds r,c ds=some r∧RpA K H vs ds∧∀v H',Same H H'→sP K H H' v r→Q v H'
section
variable {K:Frag} {B F:Hp} {A N:List Addr} {σ:mX} {H H':Hp} {E:List Sl} {xs:List V} {Xs:List Sl} {v:V} {s:Sl}
theorem FrF.growN(h:FrF K B F A σ H E xs Xs)(g:Same H H')(hN:∀a∈N,H a=none∧((∃us,H' a=some (.lst us))∨∃us,H' a=some (.dK us))):FrF K B (fun b=>if b∈N then none else if b∈A then none else H' b) A σ H' E xs Xs:=by
 have h1:=h.grow g
 have nF:∀b o,F b=some o→b∉N:=fun b o e hb=>by
  have:=h.fh.free (hN b hb).1
  rw[this]at e;cases e
 have FF:Same F (fun b=>if b∈N then none else if b∈A then none else H' b):=fun b o e=>by
  have nA:b∉A:=fun hb=>by rw[h.fr b hb]at e;cases e
  show(if b∈N then none else if b∈A then none else H' b)=some o
  rw[if_neg (nF b o e),if_neg nA]
  exact g _ _ (h.fh _ _ e)
 have hA:∀b∈A,H' b=H b:=fun b hb=>by
  rcases h.mutA b hb with⟨_,z⟩ |⟨_,z⟩ <;> rw[z,g _ _ z]
 refine⟨h.bf.trans FF,fun b o e=>?_,fun b o e=>?_,h.sl.mono fun o s C _ hC q=>q.stay FF (fun b hb=>hA b (hC b hb)) fun _=>g,h.nd,fun a ha=>?_,h.len,h.pl⟩
 ·by_cases hb:b∈N
  ·rw[if_pos hb]at e;cases e
  ·rw[if_neg hb]at e;exact h1.fh _ _ e
 ·show(if b∈N then none else if b∈A then none else H' b)=some o
  by_cases hb:b∈N
  ·obtain⟨e1,e2⟩:=Option.filter_eq_some_iff.mp e
   rcases(hN b hb).2 with⟨us,z⟩ |⟨us,z⟩ <;> rw[z]at e1 <;> cases e1 <;> cases e2
  ·rw[if_neg hb];exact h1.tf _ _ e
 ·show(if a∈N then none else if a∈A then none else H' a)=none
  by_cases hb:a∈N
  ·rw[if_pos hb]
  ·rw[if_neg hb,if_pos ha]
theorem FrF.pushR(h:FrF K B F A σ H E xs Xs)(q:SlOk K F H σ (some v) s N)(nd:N.Nodup)(dj:∀a∈N,a∉A)(fr:∀a∈N,F a=none):FrF K B F (N++A) σ H E (v::xs) (s::Xs):=
 ⟨h.bf,h.fh,h.tf,.cons q h.sl,List.nodup_append.mpr ⟨nd,h.nd,fun a ha b hb e=>dj a ha (e▸hb)⟩,fun a ha=>(Zan.mp ha).elim (fr a) (h.fr a),by simp[h.len],h.pl⟩
theorem FrF.told(h:FrF K B F A σ H E xs Xs)(g:Same H H')(q:sP K H H' v s):Frm K B σ H' E (v::xs) (s::Xs):=by
 cases s with
 |sh d=>
  have h1:=h.grow g
  exact⟨_,_,h1.push ⟨rfl,v,rfl,Rp.same h1.tf q⟩⟩
 |ow ds=>
  obtain⟨l,vs,rfl,hl,hl',r⟩:=q
  have h1:=h.growN (N:=[l]) g fun a ha=>by rw[Zab.mp ha];exact⟨hl,.inl ⟨vs,hl'⟩⟩
  exact⟨_,_,h1.pushR (N:=[l]) ⟨l,vs,rfl,rfl,hl',r.same h1.tf⟩ (by simp) (fun a ha=>by rw[Zab.mp ha];exact h.newA hl) fun a ha=>if_pos ha⟩
 |tx ps=>
  obtain⟨t,vs,N,rfl,ht,nd,hN,r⟩:=q
  have h1:=h.growN (N:=N) g fun a ha=>⟨hN a ha,.inl (r.some a ha)⟩
  exact⟨_,_,h1.pushR (N:=N) ⟨t,vs,rfl,h1.tf _ _ ht,r.stay h1.tf fun _ _=>rfl⟩ nd (fun a ha=>h.newA (hN a ha)) fun a ha=>if_pos ha⟩
 |no=>exact False.elim q
 |od kvs=>
  obtain⟨l,us,N,rfl,nd,hN,hl,r⟩:=q
  have h1:=h.growN (N:=l::N) g fun a ha=>⟨hN a ha,(Zal.mp ha).elim (fun z=>.inr ⟨us,z▸hl⟩) fun z=>.inl (r.some a z)⟩
  exact⟨_,_,h1.pushR (N:=l::N) ⟨l,us,N,rfl,rfl,hl,r.stay h1.tf fun _ _=>rfl⟩ nd (fun a ha=>h.newA (hN a ha)) fun a ha=>if_pos ha⟩
 |al i=>exact False.elim q
 |br d=>
  have h1:=h.grow g
  exact⟨_,_,h1.push ⟨rfl,v,rfl,q⟩⟩
end
def ai(c:List PyData→Option Sl)(g:ln):bH:=fun E=>(g E).bind fun a=>(cJ a.2 a.1).bind fun ds=>(c ds).map fun r=>(r,a.2)
theorem aC{X:Cx}{k:Nat}{x:Str}{ps:List Str}{c:List PyData→Option Sl}{p pos:Pos}{e:Expr}{es:List Expr}{m:Bool}{g:ln}(D:Own X.prog X.w X.K X.mg X.base k x ps (cM X.K c))(hr:Room k X.A)(hg:Gl X x)(ha:AX X (e::es) m g)
  (hdb:(x == ("__debug__":Str))=false:=by decide) (he:starEach (e::es) X.env=(false,eval e X.env)::starEach es X.env:=by rfl) (hpl:(backTo pos (starEach es X.env)).any (·.1)=false:=by rfl):
  EX X (.Call (.Name x p) (e::es) [] pos) m (ai c g):=by
 refine bW (DU D hr hg ha hdb he hpl) fun σ H Q z=>?_
 obtain⟨B,E,xs,Xs,res,E',fr,cl,e,q⟩:=z
 obtain⟨⟨rs,E1⟩,e1,e⟩:=Za.mp e
 obtain⟨ds,e2,e⟩:=Za.mp e
 obtain⟨r,e3,e⟩:=Zad.mp e
 cases e
 refine⟨B,E,xs,Xs,rs,E1,fr,cl,e1,fun vs H1 hl ⟨F,A,fr1⟩=>?_⟩
 obtain⟨r1,A',fr2⟩:=fr1.looks hl e2
 exact⟨ds,res,e3,by rw[qJ];exact r1,fun v H' g q'=>q v H' (fr2.told g q')⟩
def eJ(i:Nat)(f:bH):bH:=fun E=>match E[i]? with
 |some (.ow _)=>(f E).bind fun a=>(frz a.2 a.1).bind fun b=>match b.2[i]? with
  |some (.ow ds)=>if ds.length < 1000000 then some (.sh .none,b.2.set i (.ow (ds++[b.1])))else none
  |_=>none
 |_=>none
def q_(i:Nat):bH:=fun E=>match E[i]? with
 |some (.ow ds)=>(ds[ds.length - 1]?).map fun d=>(.sh d,E.set i (.ow ds.dropLast))
 |_=>none
section
variable {X:Cx} {e:Expr} {m1:Bool} {f:bH} {x:Str} {p apos cpos:Pos}
theorem mj (i:Nat) (he:EX X e m1 f) (hN:X.N[i]? =some x:=by rfl) (hv:EY X.env.scope x:=by first |exact Or.inl rfl |exact Or.inr (Or.inl rfl) |exact Or.inr (Or.inr rfl)) (hd:(x == ("__debug__":Str))=false:=by decide) (hcd:(x == ("__classdict__":Str))=false:=by decide)
  (hs:starEach [e] X.env=[(false,eval e X.env)]:=by rfl) (hbase:attributeBase (.Name x p) "append" X.env (eval (.Name x p) X.env)=eval (.Name x p) X.env:=by rfl)
  (hfew:((backTo cpos (starEach [e] X.env)).all (fun x=> !x.1)&&(backToKw cpos (keywordEach [] X.env)).all (fun x=>x.1.isSome)
   &&decide (([e]:List Expr).length+([]:List Keyword).length+(if ([]:List Keyword).isEmpty then 0 else 1) < 30))=true:=by rfl) (hline:(apos.endLine == cpos.line)=true:=by rfl):
  EX X (.Call (.Attribute (.Name x p) "append" apos) [e] [] cpos) true (eJ i f):=by
 refine bW (CT PySem.F.plainAttrs_list PySem.F.slot_list_append PySem.F.type_list_append mf (uC hN hv hd hcd) (eI he gy hs) hbase hfew hline hs rfl) fun σ H Q z=>?_
 obtain⟨B,E,xs,Xs,res,E',⟨F,A,fr⟩,cl,e,q⟩:=z
 unfold eJ at e
 split at e
 ·rename_i ds0 ei
  obtain⟨⟨s,E1⟩,e1,e⟩:=Za.mp e
  obtain⟨⟨d,E2⟩,e2,e⟩:=Za.mp e
  simp only at e
  split at e
  ·rename_i ds ei2
   split at e
   ·rename_i hl
    cases e
    obtain⟨o,A1,eo,l,vs,rfl,rfl,hl0,_⟩:=fr.var ei
    refine⟨_,eo,.inl ⟨rfl,_,SqL.of hl0⟩,B,E,xs,Xs,s,E1,⟨F,A,fr⟩,fun _=>cl rfl,e1,fun v H1 ⟨F1,A1,fr1⟩=>?_⟩
    obtain⟨F2,A2,fr2⟩:=fr1.frz0 e2
    obtain⟨v',A3,ev,rfl,w,ew,rv⟩:=fr2.ext (k:=0) rfl
    cases ev;cases ew
    obtain⟨A4,fr3⟩:=fr2.pop
    obtain⟨l',vs',eo',hl',r',put⟩:=fr3.mut ei2 (cl rfl)
    rw[eo]at eo'
    cases eo'
    have ll:=r'.len
    have fr4:=put (vs'++[v]) (ds++[d]) (r'.snoc rv)
    exact⟨l,vs',v,rfl,rfl,hl',small (by omega),q _ _ ⟨_,_,fr4.push ⟨rfl,_,rfl,.non⟩⟩⟩
   ·cases e
  ·cases e
 ·cases e
theorem Eb (i:Nat) (hN:X.N[i]? =some x:=by rfl) (hv:EY X.env.scope x:=by first |exact Or.inl rfl |exact Or.inr (Or.inl rfl) |exact Or.inr (Or.inr rfl)) (hd:(x == ("__debug__":Str))=false:=by decide) (hcd:(x == ("__classdict__":Str))=false:=by decide)
  (hbase:attributeBase (.Name x p) "pop" X.env (eval (.Name x p) X.env)=eval (.Name x p) X.env:=by rfl) (hline:(apos.endLine == cpos.line)=true:=by rfl):
  EX X (.Call (.Attribute (.Name x p) "pop" apos) [] [] cpos) true (q_ i):=by
 refine bW (DR PySem.F.plainAttrs_list PySem.F.slot_list_pop PySem.F.type_list_pop DS (uC hN hv hd hcd) hbase hline) fun σ H Q z=>?_
 obtain⟨B,E,xs,Xs,res,E',⟨F,A,fr⟩,cl,e,q⟩:=z
 unfold q_ at e
 split at e
 ·rename_i ds ei
  obtain⟨d,ed,e⟩:=Zad.mp e
  cases e
  obtain⟨l,vs,eo,hl,r,put⟩:=fr.mut ei (cl rfl)
  obtain⟨y,ey,ry⟩:=r.get ed
  have fr2:=put vs.dropLast ds.dropLast r.dropLast
  exact⟨_,eo,.inl ⟨rfl,_,SqL.of hl⟩,l,vs,y,rfl,rfl,hl,by rw[r.len];exact ey,q _ _ ⟨_,_,fr2.push ⟨rfl,_,rfl,ry⟩⟩⟩
 ·cases e
end
def og(s:Sl):Sl:=match s.val with
 |some d=>.sh d
 |none=>.no
def frzAll(E:List Sl):List Sl:=E.map og
def settle(E:List Sl):Sl→Option (Sl×List Sl)
 |.al i=>(frz E (.al i)).map fun a=>(.sh a.1,a.2)
 |.br d=>if cT d then some (.sh d,E)else some (.sh d,frzAll E)
 |s=>some (s,E)
def aP(g h:dO):dO:=fun E=>(g E).bind fun a=>match a.2 with
 |.nx=>h a.1
 |fl=>some (a.1,fl)
def bJ:dO:=fun E=>some (E,.nx)
def fJ(f:bH):dO:=fun E=>(f E).map fun a=>(a.2,.nx)
def aO(f:bH):dO:=fun E=>(f E).bind fun a=>match a.1 with
 |.al i=>(a.2[i]?).map fun s=>(a.2.set i .no,.rt s)
 |s=>some (a.2,.rt s)
def dD(c:kG)(g h:dO):dO:=fun E=>(c E).bind fun a=>if a.1 then g a.2 else h a.2
def aD(i:Nat)(f:bH):dO:=fun E=>(f E).bind fun a=>(settle a.2 a.1).bind fun b=>if i < b.2.length then some (b.2.set i b.1,.nx)else none
section
variable {K:Frag} {B F:Hp} {A:List Addr} {σ:mX} {H:Hp} {E E':List Sl} {xs:List V} {Xs:List Sl} {v:V} {s s':Sl} {d:PyData}
theorem FrF.frzAll(h:FrF K B F A σ H E xs Xs)(hX:Xs=[]):FrF K B H [] σ H (PL.frzAll E) [] []:=by
 subst hX
 have hx:xs=[]:=by simpa using h.len
 subst hx
 refine⟨h.bf.trans h.fh,Same.refl _,jW H,?_,List.nodup_nil,fun a ha=>(by cases ha),rfl,fun s hs=>?_⟩
 ·have key:∀{os:List (Option V)} {ss:List Sl} {C:List Addr},SAll (SlOk K F H σ) os ss C→SAll (SlOk K H H σ) os (PL.frzAll ss) []:=fun {os ss C} r=>by
   induction r with
   |nil=>exact .nil
   |cons q _ ih=>
    refine .cons (A:=[]) ?_ ih
    unfold og
    split
    ·rename_i d e
     obtain⟨v,rfl,r,_⟩:=q.val h.fh e
     exact⟨rfl,v,rfl,r⟩
    ·exact rfl
  exact key h.sl
 ·obtain⟨t,_,rfl⟩:=Zap.mp hs
  unfold og
  split <;> rfl
theorem FrF.settle(h:FrF K B F A σ H E (v::xs) (s::Xs))(hX:Xs=[])(q:PL.settle E s=some (s',E')):s'.isAl=false∧Frm K B σ H E' (v::xs) (s'::Xs):=by
 cases s with
 |al i=>
  obtain⟨⟨d,E2⟩,e,z⟩:=Zad.mp (show(frz E (.al i)).map (fun a=>(Sl.sh a.1,a.2))=some (s',E')from q)
  cases z
  obtain⟨F',A',h'⟩:=h.frz0 e
  exact⟨rfl,F',A',h'⟩
 |br d=>
  have r:=(h.look0 (d:=d) rfl).1
  obtain⟨A',h'⟩:=h.pop
  simp only[PL.settle]at q
  split at q
  ·rename_i hf
   cases q
   exact⟨rfl,F,A',h'.push ⟨rfl,v,rfl,h.cold r hf⟩⟩
  ·cases q
   have h2:=h'.frzAll hX
   have hl:=h'.len
   subst hX
   have hx:xs=[]:=by simpa using hl
   subst hx
   exact⟨rfl,H,[],h2.push ⟨rfl,v,rfl,r⟩⟩
 |no=>cases q;exact⟨rfl,F,A,h⟩
 |sh d=>cases q;exact⟨rfl,F,A,h⟩
 |ow ds=>cases q;exact⟨rfl,F,A,h⟩
 |od kvs=>cases q;exact⟨rfl,F,A,h⟩
 |tx ps=>cases q;exact⟨rfl,F,A,h⟩
theorem FrF.move{i:Nat}(h:FrF K B F A σ H E (v::xs) (.al i::Xs))(e:E[i]? =some s):Frm K B σ H (E.set i .no) (v::xs) (s::Xs):=by
 obtain⟨v',A1,ev,rfl,w,ew,hw⟩:=h.ext (k:=0) rfl
 cases ev;cases ew
 obtain⟨A',h'⟩:=h.pop
 obtain⟨o,A0,A1,A2,eA,eo,hp,put⟩:=h'.sl.at (k:=Xs.length+i) (s:=s) (by rw[AK (by omega)];simpa using e)
 have z:=put (SlOk K F H σ) o .no [] rfl fun _ _ _ _ _ q=>q
 have e3:(Xs++E).set (Xs.length+i) .no=Xs++E.set i .no:=by
  rw[List.set_append_right _ _ (by omega),Zb]
 have e2:(List.map some xs++σ).set (Xs.length+i) o=List.map some xs++σ:=List.ext_getElem? fun j=>by
  by_cases hj:Xs.length+i=j
  ·subst hj
   rw[List.getElem?_set_self',eo];rfl
  ·rw[List.getElem?_set_ne hj]
 rw[e2,e3]at z
 rw[AK (by rw[fH,h'.len];omega),fH,h'.len,Zb,hw]at eo
 cases eo
 have nd:=h'.nd
 rw[eA]at nd
 refine⟨F,A1++(A0++([]++A2)),h.bf,h.fh,h.tf,.cons hp z,?_,fun a ha=>h'.fr a ?_,h.len,fun s' hs=>?_⟩
 ·have p:(A1++(A0++([]++A2))).Perm (A0++(A1++A2)):=by
   rw[List.nil_append,←pA,←pA]
   exact List.Perm.append_right _ List.perm_append_comm
  exact p.nodup_iff.mpr nd
 ·rw[eA]
  simp only[Zan,Z8]at ha ⊢
  rcases ha with z |z |z
  ·exact .inr (.inl z)
  ·exact .inl z
  ·exact .inr (.inr z)
 ·rcases List.mem_or_eq_of_mem_set hs with hs |hs
  ·exact h.pl s' hs
  ·subst hs;rfl
end
section
variable {X:Cx} {st:Stmt} {eN a b:List Stmt} {g h:dO} {e c:Expr} {m:Bool} {f:bH} {t:kG} {pos:Pos}
theorem bx:uM X [] bJ:=vW AW fun D σ H z=>by
 obtain⟨B,E,xs,Xs,E',fl,fr,cl,e,q⟩:=z
 cases e
 exact q _ _ fr
theorem aq(h1:SX X st g):uM X [st] g:=AY h1
theorem Ec{K:Frag}{D:Ends}{σ:mX}{H:Hp}(z:rs K (aP g h) D σ H):rs K g {D with nx:=rs K h D} σ H:=by
 obtain⟨B,E,xs,Xs,E',fl,fr,cl,e,q⟩:=z
 obtain⟨⟨E1,f1⟩,e1,e⟩:=Za.mp e
 refine⟨B,E,xs,Xs,E1,f1,fr,cl,e1,?_⟩
 cases f1 with
 |nx=>exact fun σ' H' fr'=>⟨B,E1,xs,Xs,E',fl,fr',cl,e,q⟩
 |bk=>cases e;exact q
 |ct=>cases e;exact q
 |rt r=>cases e;exact q
theorem ao(h1:SX X st g)(h2:uM X eN h):uM X (st::eN) (aP g h):=vW (yh h1 h2) fun D σ H z=>Ec z
theorem lw(he:EX X e m f)(hs:swapsWith e none pos.line X.env=pure false:=by rfl):SX X (.Expr e pos) (fJ f):=kH (AZ he hs) fun D σ H z=>by
 obtain⟨B,E,xs,Xs,E',fl,fr,cl,e,q⟩:=z
 obtain⟨⟨s,E1⟩,e1,e⟩:=Zad.mp e
 cases e
 refine⟨B,E,xs,Xs,s,E1,fr,fun _=>Calm.nil cl,e1,fun v H1 ⟨F,A,fr1⟩=>?_⟩
 obtain⟨A',fr2⟩:=fr1.pop
 exact q _ _ ⟨F,A',fr2⟩
theorem aK(he:EX X e m f):SX X (.Return (some e) pos) (aO f):=kH (Dw he) fun D σ H z=>by
 obtain⟨B,E,xs,Xs,E',fl,fr,cl,e,q⟩:=z
 obtain⟨⟨s,E1⟩,e1,e⟩:=Za.mp e
 refine⟨B,E,xs,Xs,s,E1,fr,fun _=>Calm.nil cl,e1,fun v H1 ⟨F,A,fr1⟩=>?_⟩
 simp only at e
 split at e
 ·obtain⟨s',es,e⟩:=Zad.mp e
  cases e
  exact q σ _ _ (fr1.move es)
 ·cases e
  exact q σ _ _ ⟨F,A,fr1⟩
theorem dW(hc:TX X c m t)(ha:uM X a g)(hb:uM X b h):SX X (.If c a b pos) (dD t g h):=kH (Fa hc ha hb) fun D σ H z=>by
 obtain⟨B,E,xs,Xs,E',fl,fr,cl,e,q⟩:=z
 obtain⟨⟨b1,E1⟩,e1,e⟩:=Za.mp e
 refine⟨B,E,xs,Xs,b1,E1,fr,fun _=>Calm.nil cl,e1,fun H1 fr1=>?_⟩
 cases b1 with
 |true=>exact(if_pos rfl).mpr ⟨B,E1,xs,Xs,E',fl,fr1,cl,e,q⟩
 |false=>exact(if_neg (by decide)).mpr ⟨B,E1,xs,Xs,E',fl,fr1,cl,e,q⟩
theorem aV(i:Nat){x:Str}{pos':Pos}(hN:X.N.Nodup)(he:EX X e m f)(hi:X.N[i]? =some x:=by rfl)(hx:Do X.env.scope x:=by first |exact Or.inl rfl |exact Or.inr rfl)(hs:swapsWith e (some (.Name x pos')) pos.line X.env=pure false:=by rfl)(hf:X.fn x=true∨X.env.scope.names.lookup x=some .local:=by first |exact .inl rfl |exact .inr rfl |assumption):
  SX X (.Assign [.Name x pos'] e pos) (aD i f):=kH (DA hN hi hx he hs hf) fun D σ H z=>by
 obtain⟨B,E,xs,Xs,E',fl,fr,cl,e,q⟩:=z
 obtain⟨⟨s,E1⟩,e1,e⟩:=Za.mp e
 obtain⟨⟨s',E2⟩,e2,e⟩:=Za.mp e
 refine⟨B,E,xs,Xs,s,E1,fr,fun _=>Calm.nil cl,e1,fun v H1 ⟨F,A,fr1⟩=>?_⟩
 obtain⟨c1,F2,A2,fr2⟩:=fr1.settle cl e2
 simp only at e
 split at e
 ·rename_i hi
  cases e
  obtain⟨A3,fr3⟩:=fr2.store c1 (Still.nil cl) hi
  exact q _ _ ⟨F2,A3,fr3⟩
 ·cases e
end
end PL
namespace PL
open PySem L2 Nh
abbrev gK:=PyData→List Sl→Option (List Sl)
abbrev sQ:=List PyData→List Sl→Option (List Sl)
def rg(K:Frag)(h:gK):TG:=fun v σ H Q=>∃B E xs Xs d E',Frm K B σ H E (v::xs) (.sh d::Xs)∧Still Xs∧h d E=some E'∧∀σ' H',Frm K B σ' H' E' xs Xs→Q σ' H'
def Hw(K:Frag)(h:sQ):A_:=fun vs σ H Q=>∃B E xs Xs ds E',vs.length=ds.length∧Frm K B σ H E (vs++xs) (ds.map .sh++Xs)∧Still Xs∧h ds E=some E'∧∀σ' H',Frm K B σ' H' E' xs Xs→Q σ' H'
def GX(X:Cx)(e:Expr)(h:gK):Prop:=PG X e (rg X.K h)
def Gj(X:Cx)(es:List Expr)(h:sQ):Prop:=Dy X es (Hw X.K h)
def aW(i:Nat):gK:=fun d E=>if i < E.length then some (E.set i (.sh d))else none
def kq:sQ:=fun ds E=>if ds.isEmpty then some E else none
def g5(h:gK)(hs:sQ):sQ:=fun ds E=>match ds with
 |d::ds=>(h d E).bind (hs ds)
 |[]=>none
def kr(n:Nat)(hs:sQ):gK:=fun d E=>match d with
 |.tuple ds=>if ds.length=n then hs ds E else none
 |_=>none
section
variable {X:Cx}
theorem yX{e:Expr}{t t':TG}(h:PG X e t)(k:∀v σ H Q,t' v σ H Q→t v σ H Q):PG X e t':=fun pins s σ H v u Q I r q=>h pins s σ H v u Q I r (k v σ H Q q)
theorem v7{es:List Expr}{t t':A_}(h:Dy X es t)(k:∀v σ H Q,t' v σ H Q→t v σ H Q):Dy X es t':=fun pins s σ H v u Q I r q=>h pins s σ H v u Q I r (k v σ H Q q)
theorem bK(i:Nat){x:Str}{pos:Pos}(hN:X.N.Nodup)(hi:X.N[i]? =some x:=by rfl)(hx:Do X.env.scope x:=by first |exact Or.inl rfl |exact Or.inr rfl)(hf:X.fn x=true∨X.env.scope.names.lookup x=some .local:=by first |exact .inl rfl |exact .inr rfl |assumption):GX X (.Name x pos) (aW i):=yX (vJ hN hi hx hf) fun v σ H Q z=>by
 obtain⟨B,E,xs,Xs,d,E',⟨F,A,fr⟩,cl,e,q⟩:=z
 unfold aW at e
 split at e
 ·rename_i hi
  cases e
  obtain⟨A',fr'⟩:=fr.store rfl cl hi
  exact q _ _ ⟨F,A',fr'⟩
 ·cases e
theorem v8:Gj X [] kq:=v7 Ba fun v σ H Q z=>by
 obtain⟨B,E,xs,Xs,ds,E',hl,fr,cl,e,q⟩:=z
 unfold kq at e
 split at e
 ·rename_i hd
  cases e
  have:ds=[]:=by simpa using hd
  subst this
  have hv:v=[]:=by simpa using hl
  subst hv
  exact⟨rfl,q _ _ fr⟩
 ·cases e
theorem ly{e:Expr}{es:List Expr}{h:gK}{hs:sQ}(h1:GX X e h)(h2:Gj X es hs)(hst:(assignEach (e::es) X.env).map (·.2)=assign e X.env::(assignEach es X.env).map (·.2):=by rfl):Gj X (e::es) (g5 h hs):=v7 (yk h1 h2 hst) fun v σ H Q z=>by
 obtain⟨B,E,xs,Xs,ds,E',hl,fr,cl,e,q⟩:=z
 cases ds with
 |nil=>cases e
 |cons d ds=>
  cases v with
  |nil=>cases hl
  |cons v vs=>
   obtain⟨E1,e1,e2⟩:=Za.mp e
   refine⟨v,vs,rfl,B,E,vs++xs,ds.map Sl.sh++Xs,d,E1,fr,fun s hs=>?_,e1,fun σ1 H1 fr1=>⟨B,E1,xs,Xs,ds,E',by simpa using hl,fr1,cl,e2,q⟩⟩
   rcases Zan.mp hs with hs |hs
   ·obtain⟨d',_,rfl⟩:=Zap.mp hs
    rfl
   ·exact cl s hs
theorem yY{es:List Expr}{k:Nat}{pos:Pos}{hs:sQ}{n:Nat}(hc:X.calm=true)(h:Gj X es hs)(hn:(assignEach es X.env).length=n:=by rfl)(hst:(assignEach es X.env).findIdx? (·.1)=none:=by rfl):GX X (.Tuple es k pos) (kr n hs):=yX (Dz hc h hn hst) fun v σ H Q z=>by
 obtain⟨B,E,xs,Xs,d,E',⟨F,A,fr⟩,cl,e,q⟩:=z
 unfold kr at e
 split at e
 ·rename_i ds
  split at e
  ·rename_i hl
   obtain⟨v',A1,ev,rfl,w,ew,r⟩:=fr.ext (k:=0) rfl
   cases ev;cases ew
   cases r with
   |tup h1 h2=>
    obtain⟨A',fr'⟩:=fr.pop
    have key:∀{us:List V} {es:List PyData},RpA X.K F us es→FrF X.K B F A' σ H E (us++xs) (es.map .sh++Xs):=fun {us es} r=>by
     induction us generalizing es with
     |nil=>cases r;exact fr'
     |cons u us ih=>
      cases r with
      |cons r1 r2=>exact(ih r2).push ⟨rfl,_,rfl,r1⟩
    exact⟨_,_,rfl,fr.fh.tup h1,by rw[h2.len];exact hl,B,E,xs,Xs,ds,E',h2.len,⟨F,A',key h2⟩,cl,e,q⟩
  ·cases e
 ·cases e
end
def uQ(K:Frag)(B0:Hp)(J:It)(ds:List PyData):Prop:=∀{B F:Hp} {A:List Addr} {σ:mX} {H:Hp} {E:List Sl} {xs:List V} {Xs:List Sl} (i:Nat),Same B0 B→FrF K B F A σ H E xs Xs→
 (∀d,ds[i]? =some d→J.go i H∧∀x H2,J.yld i H x H2→Frm K B σ H2 E (x::xs) (.sh d::Xs))∧(i=ds.length→J.stop i H)
def ri(K:Frag)(m:Bool)(f:lq):TI:=fun σ H R=>∃B E xs Xs ds E',Frm K B σ H E xs Xs∧(m=true→Calm Xs)∧f E=some (ds,E')∧∀B' J H',Same B B'→Frm K B' σ H' E' xs Xs→uQ K B' J ds→R J H'
def IX(X:Cx)(tg e:Expr)(m:Bool)(f:lq):Prop:=PI X tg e (ri X.K m f)
theorem FrF.base{K:Frag}{B B' F:Hp}{A:List Addr}{σ:mX}{H:Hp}{E:List Sl}{xs:List V}{Xs:List Sl}(h:FrF K B' F A σ H E xs Xs)(s:Same B B'):FrF K B F A σ H E xs Xs:=⟨s.trans h.bf,h.fh,h.tf,h.sl,h.nd,h.fr,h.len,h.pl⟩
theorem Frm.base{K:Frag}{B B':Hp}{σ:mX}{H:Hp}{E:List Sl}{xs:List V}{Xs:List Sl}(h:Frm K B' σ H E xs Xs)(s:Same B B'):Frm K B σ H E xs Xs:=let ⟨F,A,h⟩:=h;⟨F,A,h.base s⟩
theorem FrF.raise{K:Frag}{B F:Hp}{A:List Addr}{σ:mX}{H:Hp}{E:List Sl}{xs:List V}{Xs:List Sl}(h:FrF K B F A σ H E xs Xs):FrF K F F A σ H E xs Xs:=⟨Same.refl _,h.fh,h.tf,h.sl,h.nd,h.fr,h.len,h.pl⟩
def oh(lo:Int)(n:Nat):List PyData:=(List.range n).map fun(k:Nat)=>.int (lo+(k:Int))
def oi(g:ln):lq:=fun E=>(g E).bind fun a=>match cJ a.2 a.1 with
 |some [.int j]=>if -1000000≤j∧j≤1000000 then some (oh 0 j.toNat,a.2)else none
 |_=>none
section
variable {X:Cx} {tg e e2:Expr} {m:Bool} {f:bH} {g:ln} {p pos:Pos} {K:Frag} {B:Hp}
theorem yZ{t t':TI}(h:PI X tg e t)(k:∀σ H Q,t' σ H Q→t σ H Q):PI X tg e t':=fun pins s σ H R I q=>h pins s σ H R I (k σ H R q)
theorem xg{a:Addr}{vs:List V}{ds:List PyData}(h:SqL K B a vs)(r:RpA K B vs ds):uQ K B (GA K a) ds:=fun {B' F A σ H E xs Xs} i sB fr=>by
 have hH:=fr.fh.seq (fr.bf.seq (sB.seq h))
 refine⟨fun d ed=>?_,fun e=>⟨vs,hH,by rw[e,r.len];exact fQ _⟩⟩
 obtain⟨v,ev,rv⟩:=r.get ed
 refine⟨⟨vs,v,hH,ev⟩,fun x H2 ⟨e2,y⟩=>?_⟩
 subst e2
 have:=y vs hH
 rw[ev]at this
 cases this
 exact⟨F,A,fr.push ⟨rfl,_,rfl,rv.same (sB.trans fr.bf)⟩⟩
theorem uR{lo:Int}{n:Nat}:uQ K B (Gh lo n) (oh lo n):=fun {B' F A σ H E xs Xs} i sB fr=>by
 have hl:(oh lo n).length=n:=by simp[oh]
 refine⟨fun d ed=>?_,fun e=>?_⟩
 ·have hi:i < n:=by have:=(Zba.mp ed).1;omega
  refine⟨hi,fun x H2 ⟨e2,y⟩=>?_⟩
  subst e2 y
  have:d=.int (lo+i):=by
   unfold oh at ed
   rw[List.getElem?_map,List.getElem?_range hi]at ed
   exact(Option.some.inj ed).symm
  subst this
  exact⟨F,A,fr.push ⟨rfl,_,rfl,.int _⟩⟩
 ·show n≤i
  omega
theorem xh (hg:Gl X "range") (hm:X.mg "range"=none) (ha:AX X [e] m g) (hs:starEach [e] X.env=[(false,eval e X.env)]:=by rfl):IX X tg (.Call (.Name "range" p) [e] [] pos) m (oi g):=yZ (wS hg hm ha hs) fun σ H R z=>by
 obtain⟨B,E,xs,Xs,ds,E',fr,cl,e,q⟩:=z
 obtain⟨⟨rs,E1⟩,e1,e⟩:=Za.mp e
 refine⟨B,E,xs,Xs,rs,E1,fr,cl,e1,fun vs H1 hl ⟨F,A,fr1⟩=>?_⟩
 simp only at e
 split at e
 ·rename_i j ld
  split at e
  ·rename_i hj
   cases e
   obtain⟨r,A',fr2⟩:=fr1.looks hl ld
   obtain⟨v,rfl,r'⟩:=r.one
   cases r'
   exact⟨j,rfl,by omega,by omega,q B _ _ (Same.refl _) ⟨F,A',fr2⟩ uR⟩
  ·cases e
 ·cases e
end
def eK(tg:gK)(body:dO):List PyData→dO
 |[],E=>some (E,.nx)
 |d::ds,E=>((tg d E).bind body).bind fun a=>match a.2 with
  |.nx=>eK tg body ds a.1
  |.ct=>eK tg body ds a.1
  |.bk=>some (a.1,.nx)
  |.rt r=>some (a.1,.rt r)
def ii(it:lq)(tg:gK)(body:dO):dO:=fun E=>(it E).bind fun a=>eK tg body a.1 a.2
theorem jx{X:Cx}{tg iter:Expr}{body:List Stmt}{m:Bool}{it:lq}{g:gK}{b:dO}{pos:Pos}(hp:PassesOwn (model X.prog X.w) X.A X.env X.xe)(hc:X.calm=true)(hi:IX X tg iter m it)(hg:GX X tg g)(hb:uM X body b)
  (hs:∀x,foldedSetIterable iter X.env x=pure x:=by intro _;rfl):SX X (.For tg iter body [] pos) (ii it g b):=kH (yn hp hc hi hg hb hs) fun D σ H z=>by
 obtain⟨B,E,xs,Xs,E',fl,fr,cl,e,q⟩:=z
 obtain⟨⟨ds,E1⟩,e1,e⟩:=Za.mp e
 refine⟨B,E,xs,Xs,ds,E1,fr,fun _=>Calm.nil cl,e1,fun B' J H1 hB fr1 ok=>?_⟩
 refine⟨fun i mm σ' H'=>mm=ds.length - i∧i≤ds.length∧∃Ei,eK g b (ds.drop i) Ei=some (E',fl)∧Frm X.K B' σ' H' Ei xs Xs,⟨ds.length,by simp,Nat.zero_le _,E1,by simpa using e,fr1⟩,?_⟩
 rintro i mm σ' H' ⟨rfl,hi,Ei,ei,F,A,fri⟩
 obtain⟨go,stop⟩:=ok i (Same.refl _) fri
 by_cases hlt:i < ds.length
 ·obtain⟨d,ed⟩:∃d,ds[i]? =some d:=⟨ds[i],uv hlt⟩
  obtain⟨g1,yl⟩:=go d ed
  have edr:ds.drop i=d::ds.drop (i+1):=by
   rw[List.drop_eq_getElem_cons hlt]
   congr 1
   exact Option.some.inj ((uv hlt).symm.trans ed)
  rw[edr]at ei
  obtain⟨⟨E2,f2⟩,e2,ei⟩:=Za.mp ei
  obtain⟨E3,e3,e2⟩:=Za.mp e2
  refine .inr ⟨g1,fun σ2 H2=>∃Ej,eK g b (ds.drop (i+1)) Ej=some (E',fl)∧Frm X.K B' σ2 H2 Ej xs Xs,fun σ2 H2 ⟨Ej,ej,frj⟩=>⟨ds.length - (i+1),by omega,rfl,hlt,Ej,ej,frj⟩,fun x H2 y=>?_⟩
  refine⟨B',Ei,xs,Xs,d,E3,yl x H2 y,Still.nil cl,e3,fun σ3 H3 fr3=>?_⟩
  refine⟨B',E3,xs,Xs,E2,f2,fr3,cl,e2,?_⟩
  cases f2 with
  |nx=>exact fun σ4 H4 fr4=>⟨E2,ei,fr4⟩
  |ct=>exact fun σ4 H4 fr4=>⟨E2,ei,fr4⟩
  |bk=>cases ei;exact fun σ4 H4 fr4=>q _ _ (fr4.base hB)
  |rt r=>cases ei;exact fun σ4 v H4 fr4=>q _ _ _ (fr4.base hB)
 ·have e0:i=ds.length:=by omega
  refine .inl ⟨stop e0,?_⟩
  rw[e0,List.drop_length]at ei
  cases ei
  exact q _ _ (Frm.base ⟨F,A,fri⟩ hB)
def bG:Sl→Bool
 |.sh d=>cT d
 |.ow ds=>bE ds
 |.tx ps=>ps.all fun p=>match p with |.fl d=>cT d |.ol ds=>bE ds
 |.od kvs=>kvs.all fun p=>bE p.2
 |_=>false
def aX(n:Nat)(ds:List PyData):List Sl:=ds.map .sh++List.replicate (n - ds.length) .no
def dQ(r:Sl):Option Sl:=if bG r then some r else match r with
 |.sh d=>some (.br d)
 |.ow ds=>some (.br (.list ds))
 |.tx ps=>some (.br (.tuple (ps.map Pt.val)))
 |.br d=>some (if cT d then .sh d else .br d)
 |_=>none
def dE(n:Nat)(g:dO):List PyData→Option Sl:=fun ds=>(g (aX n ds)).bind fun a=>match a.2 with
 |.rt r=>dQ r
 |.nx=>some (.sh .none)
 |_=>none
section
variable {K:Frag} {B F:Hp} {A:List Addr} {σ:mX} {H:Hp} {E:List Sl} {v:V} {r:Sl}
theorem DlOk.cold{F H:Hp}(sF:Same F H):∀{us:List (iC×V)} {kvs:List (iC×List PyData)} {A:List Addr},(∀p∈kvs,bE p.2=true)→DlOk K F H us kvs A→DlOk K (tups H) H us kvs A
 |[],[],A,_,h=>h
 |p::us,q::kvs,A,c,h=>by
  obtain⟨l,vs,A',rfl,rfl,hl,hr,k⟩:=h
  exact⟨l,vs,A',rfl,rfl,hl,(hr.same sF).cold (c q (io ..)),DlOk.cold sF (fun p hp=>c p (il _ hp)) k⟩
 |[],_::_,_,_,h=>False.elim h
 |_::_,[],_,_,h=>False.elim h
theorem PtsOk.cold{F H G:Hp}(sF:Same F H)(tG:∀{v:V} {d:PyData},Rp K F v d→cT d=true→Rp K G v d):∀{vs:List V} {ps:List Pt} {A:List Addr},(∀p∈ps,(match p with |.fl d=>cT d |.ol ds=>bE ds)=true)→PtsOk K F H vs ps A→PtsOk K G H vs ps A
 |[],[],A,_,h=>h
 |v::vs,.fl d::ps,A,c,h=>⟨tG h.1 (c (.fl d) (io ..)),PtsOk.cold sF tG (fun p hp=>c p (il _ hp)) h.2⟩
 |v::vs,.ol ds::ps,A,c,h=>by
  obtain⟨l,us,A',rfl,rfl,hl,hr,q⟩:=h
  refine⟨l,us,A',rfl,rfl,hl,?_,q.cold sF tG fun p hp=>c p (il _ hp)⟩
  have cd:bE ds=true:=c (.ol ds) (io ..)
  have key:∀{us:List V} {ds:List PyData},RpA K F us ds→bE ds=true→RpA K G us ds:=fun {us ds} r c=>by
   induction us generalizing ds with
   |nil=>cases r;exact .nil
   |cons u us ih=>
    cases r with
    |cons r1 r2=>
     simp only[bE,sy]at c
     exact .cons (tG r1 c.1) (ih r2 c.2)
  exact key hr cd
 |[],_::_,_,_,h=>False.elim h
 |_::_,[],_,_,h=>False.elim h
theorem FrF.result(h:FrF K B F A σ H E [v] [r])(c:bG r=true):Same B H∧sP K B H v r:=by
 refine⟨h.bf.trans h.fh,?_⟩
 have nB:∀a,F a=none→B a=none:=fun a e=>h.bf.free e
 have cold:∀{v:V} {d:PyData},Rp K F v d→cT d=true→Rp K (tups H) v d:=fun r f=>(r.same h.fh).cold f
 obtain⟨v',A1,ev,hs⟩:=h.ext (k:=0) rfl
 cases ev
 obtain⟨o,C0,C1,C2,eA,eo,hp,_⟩:=h.sl.at (k:=0) (s:=r) rfl
 cases eo
 have sub:∀a∈C1,F a=none:=fun a ha=>h.fr a (by rw[eA];simp[ha])
 have nd:C1.Nodup:=by
  have:=h.nd
  rw[eA]at this
  exact(List.nodup_append.mp (List.nodup_append.mp this).2.1).1
 cases r with
 |sh d=>obtain⟨_,w,ew,r⟩:=hp;cases ew;exact cold r c
 |ow ds=>
  obtain⟨l,vs,el,rfl,hl,r⟩:=hp
  cases el
  exact⟨l,vs,rfl,nB l (sub l (by simp)),hl,(r.same h.fh).cold c⟩
 |tx ps=>
  obtain⟨t,vs,et,ht,r⟩:=hp
  cases et
  exact⟨t,vs,C1,rfl,lm (h.fh _ _ ht) rfl,nd,fun a ha=>nB a (sub a ha),r.cold h.fh cold (by simpa[bG,Zbg]using c)⟩
 |no=>cases c
 |od kvs=>
  obtain⟨l,us,A',el,rfl,hl,r⟩:=hp
  cases el
  exact⟨l,us,A',rfl,nd,fun a ha=>nB a (sub a ha),hl,r.cold h.fh (by simpa[bG,Zbg]using c)⟩
 |al i=>cases c
 |br d=>cases c
theorem FrF.resultO{r':Sl}(h:FrF K B F A σ H E [v] [r])(c:dQ r=some r'):Same B H∧sP K B H v r':=by
 unfold dQ at c
 split at c
 ·rename_i hc
  cases c
  exact h.result hc
 ·refine⟨h.bf.trans h.fh,?_⟩
  cases r with
  |sh d=>cases c;exact(h.look0 (d:=d) rfl).1
  |ow ds=>cases c;exact(h.look0 (d:=.list ds) rfl).1
  |tx ps=>cases c;exact(h.look0 (d:=.tuple (ps.map Pt.val)) rfl).1
  |br d=>
   have r:=(h.look0 (d:=d) rfl).1
   simp only at c
   split at c
   ·rename_i hf
    cases c
    exact r.cold hf
   ·cases c
    exact r
  |no=>cases c
  |od kvs=>cases c
  |al i=>cases c
theorem jX{N:List Str}{vs:List V}{ds:List PyData}(r:RpA K H vs ds)(hn:ds.length≤N.length):FrF K H H [] (L2.eO N vs) H (aX N.length ds) [] []:=by
 refine⟨Same.refl _,Same.refl _,jW H,?_,List.nodup_nil,fun a ha=>(by cases ha),rfl,?_⟩
 ·have l:=r.len
  unfold L2.eO aX
  rw[l]
  generalize N.length - ds.length=k
  have base:∀τ:mX,SAll (SlOk K H H τ) (List.replicate k none) (List.replicate k .no) []:=fun τ=>by
   induction k with
   |zero=>exact .nil
   |succ k ih=>exact .cons (A:=[]) rfl ih
  have key:∀(τ:mX) {us:List V} {es:List PyData},RpA K H us es→SAll (SlOk K H H τ) (us.map some++List.replicate k none) (es.map .sh++List.replicate k .no) []:=fun τ us es r=>by
   induction us generalizing es with
   |nil=>cases r;exact base τ
   |cons u us ih=>
    cases r with
    |cons r1 r2=>exact .cons (A:=[]) ⟨rfl,_,rfl,r1⟩ (ih _ r2)
  exact key _ r
 ·intro s hs
  unfold aX at hs
  rcases Zan.mp hs with hs |hs
  ·obtain⟨d,_,rfl⟩:=Zap.mp hs
   rfl
  ·rw[(List.mem_replicate.mp hs).2]
   rfl
end
def fz(k n:Nat)(g:dO):List PyData→Option Sl:=fun ds=>if ds.length=k then dE n g ds else none
theorem g6{P:Program}{w:World}{K:Frag}{mg:Str→Option Value}{base:Heap}{x:Str}{st:Stmt}{N ps:List Str}{k a n:Nat}{g:dO}(D:Def K mg x st ps)(S:FnScope N ps (af st))(hpa:ps.length=a)(hNn:N.length=n)(hps:a≤n)
  (hbody:∀(f:Addr) (cdv:Value) (A:Around) (outer:List Env) (s:Shared) (H:Hp) (E:XK),Room k (A.deeper (PyProof.Rows.envOfC x (af st) s.heap.objs.size f cdv))→
   uM (gY nX P w K mg base N x (af st) f cdv A outer s H E).nox (aA st) g):Own P w K mg base (k+1) x ps (cM K (fz a n g)):=by
 subst hpa hNn
 refine D.own S (fun vs H Q E h=>?_) (fun f cdv A outer s H vs Q E hr h=>?_)
 ·obtain⟨ds,r,e,rp,_⟩:=h
  unfold fz at e
  split at e
  ·rename_i hl
   rw[rp.len];exact hl
  ·cases e
 obtain⟨ds,r,e,rp,q⟩:=h
 unfold fz at e
 split at e
 ·rename_i hl
  refine⟨_,hbody f cdv A outer s H E hr,?_⟩
  obtain⟨⟨E',fl⟩,e1,e⟩:=Za.mp e
  refine⟨H,aX N.length ds,[],[],E',fl,⟨H,[],jX rp (by omega)⟩,rfl,e1,?_⟩
  cases fl with
  |nx=>
   cases e
   rintro σ' H' ⟨F',A',fr'⟩
   exact q _ _ (fr'.bf.trans fr'.fh) .non
  |bk=>cases e
  |ct=>cases e
  |rt r'=>
   rintro σ' v H' ⟨F',A',fr'⟩
   obtain⟨s1,s2⟩:=fr'.resultO e
   exact q v H' s1 s2
 ·cases e
theorem Hx{P:Program}{w:World}{K:Frag}{mg:Str→Option Value}{base:Heap}{x:Str}{st:Stmt}{N ps:List Str}{k a n:Nat}{g:dO}{f0:Addr}{fd:FuncData}(D:Fun K x x st f0 fd)(S:FnScope N ps (af st))(hpa:ps.length=a)(hNn:N.length=n)(hps:a≤n)
  (hbody:∀(cdv:Value) (A:Around) (outer:List Env) (s:Shared) (H:Hp) (E:XK),Room k (A.deeper (PyProof.Rows.envOfC x (af st) s.heap.objs.size f0 cdv))→
   uM (gY nX P w K mg base N x (af st) f0 cdv A outer s H E).nox (aA st) g):FnOk P w K mg base nX (k+1) f0 fd ps (cM K (fz a n g)):=by
 subst hpa hNn
 refine D.ok S (fun vs H Q E h=>?_) (fun cdv A outer s H vs Q E hr h=>?_)
 ·obtain⟨ds,r,e,rp,_⟩:=h
  unfold fz at e
  split at e
  ·rename_i hl
   rw[rp.len];exact hl
  ·cases e
 obtain⟨ds,r,e,rp,q⟩:=h
 unfold fz at e
 split at e
 ·rename_i hl
  refine⟨_,hbody cdv A outer s H E hr,?_⟩
  obtain⟨⟨E',fl⟩,e1,e⟩:=Za.mp e
  refine⟨H,aX N.length ds,[],[],E',fl,⟨H,[],jX rp (by omega)⟩,rfl,e1,?_⟩
  cases fl with
  |nx=>
   cases e
   rintro σ' H' ⟨F',A',fr'⟩
   exact q _ _ (fr'.bf.trans fr'.fh) .non
  |bk=>cases e
  |ct=>cases e
  |rt r'=>
   rintro σ' v H' ⟨F',A',fr'⟩
   obtain⟨s1,s2⟩:=fr'.resultO e
   exact q v H' s1 s2
 ·cases e
theorem qc{K:Frag}{H:Hp}:∀ns:List Int,RpA K H (ns.map V.int) (ns.map PyData.int)
 |[]=>.nil
 |n::ns=>.cons (.int n) (qc ns)
theorem Ed{K:Frag}{H:Hp}{a:Addr}{ns:List Int}{c:List PyData→Option Sl}(e:c [.list (ns.map .int)]=some (.sh (.bool true)))(h:SqL K H a (ns.map V.int)):cM K c [.ref a] H (fun v _=>v=.bl true) fun _ _ _=>False:=
 ⟨_,_,e,.cons (.lst h (qc ns)) .nil,fun v H' _ r=>by
  have r':Rp K (tups H') v (.bool true):=r
  cases r'
  rfl⟩
end PL
namespace PL
open PySem L2 Nh
def sR(E:List Sl):Option Nat→Sl
 |none=>.no
 |some j=>match (E[j]?).bind Sl.val with
  |some d=>.sh d
  |none=>.no
def iS(js:List (Option Nat))(E:List Sl):List Sl:=js.map (sR E)
def cr:kG:=fun E=>some (true,E)
def dC(tg:gK)(cond:kG)(elt:bH):List PyData→List Sl→Option (List PyData)
 |[],_=>some []
 |d::ds,E=>(tg d E).bind fun E1=>(cond E1).bind fun b=>if b.1 then (elt b.2).bind fun c=>(frz c.2 c.1).bind fun e=>(dC tg cond elt ds e.2).map fun r=>e.1::r else dC tg cond elt ds b.2
def ce(js:List (Option Nat))(it:lq)(tg:gK)(cond:kG)(elt:bH):bH:=fun E=>(it E).bind fun a=>(dC tg cond elt a.1 (iS js a.2)).bind fun ds=>if bE ds&&decide (ds.length≤1000000)then some (.ow ds,a.2)else none
section
variable {X:Cx} {elt target iter:Expr} {ifs:List Expr} {scope sc:Scope} {cl:List (Str×Addr)} {N:List Str} {pos:Pos} {js:List (Option Nat)} {K:Frag}
theorem sS{B F:Hp}{A:List Addr}{σ:mX}{H:Hp}{E:List Sl}{xs:List V}{Xs:List Sl}(fr:FrF K B F A σ H E xs Xs)(js:List (Option Nat)):FrF K H H [] (slots js σ) H (iS js E) [] []:=by
 refine⟨Same.refl _,Same.refl _,jW H,?_,List.nodup_nil,fun a ha=>(by cases ha),rfl,fun s hs=>?_⟩
 ·have key:∀(τ:mX) (ks:List (Option Nat)),SAll (SlOk K H H τ) (slots ks σ) (iS ks E) []:=fun τ ks=>by
   induction ks with
   |nil=>exact .nil
   |cons j ks ih=>
    refine .cons (A:=[]) ?_ ih
    cases j with
    |none=>exact rfl
    |some j=>
     show SlOk K H H τ _ (match (E[j]?).bind Sl.val with |some d=>.sh d |none=>.no) []
     cases ej:E[j]? with
     |none=>exact rfl
     |some s=>
      cases ev:s.val with
      |none=>simp only[Z0,ev];exact rfl
      |some d=>
       simp only[Z0,ev]
       obtain⟨o,A1,eo,hs⟩:=fr.var ej
       obtain⟨v,rfl,r,_⟩:=hs.val fr.fh ev
       refine⟨rfl,v,?_,r⟩
       show(σ[j]?).join=some v
       rw[eo]
       rfl
  exact key _ js
 ·obtain⟨j,_,rfl⟩:=Zap.mp hs
  cases j with
  |none=>rfl
  |some j=>
   simp only[sR]
   split <;> rfl
theorem xi{m2 m3:Bool}{tg:gK}{cond:kG}{el:bH}{tt:TT}(htt:∀σ H Q,rt K m2 cond σ H Q→tt σ H Q){B B' F:Hp}{A:List Addr}{σ:mX}{H1:Hp}{E1:List Sl}{xs:List V}{Xs:List Sl}{ds rs:List PyData}{J:It}{Q:VK}
  (fr1:FrF K B F A σ H1 E1 xs Xs) (B2:Same B' H1) (ok:uQ K B' J ds) (e2:dC tg cond el ds (iS js E1)=some rs) (hc:bE rs=true∧rs.length≤1000000) (q:∀v H',Frm K B σ H' E1 (v::xs) (.ow rs::Xs)→Q v H') (l:Addr) (hl:H1 l=none):
  ∃W:Nat→Nat→mX→Hp→Prop,(∃m,W 0 m (slots js σ) (upd H1 l (.lst [])))∧
 ∀i m σ' H',W i m σ' H'→(J.stop i H'∧Q (.ref l) H')∨(J.go i H'∧∃N:mX→Hp→Prop,(∀σ' H',N σ' H'→∃m',m' < m∧W (i+1) m' σ' H')∧∀x H2,J.yld i H' x H2→rg K tg x σ' H2 fun σ3 H3=>tt σ3 H3 fun b H4=>
  if b=true then rd K m3 el σ3 H4 fun y H5=>∃ys,H5 l=some (.lst ys)∧ys.length < sizeLine∧N σ3 (upd H5 l (.lst (ys++[y])))else N σ3 H4):=by
 have fr0:=(sS fr1 js).newl (ds:=[]) .nil hl
 refine⟨fun i mm σ' H'=>mm=ds.length - i∧i≤ds.length∧∃Ei acc eN,dC tg cond el (ds.drop i) Ei=some eN∧rs=acc++eN∧Frm K H1 σ' H' Ei [.ref l] [.ow acc],⟨ds.length,by simp,Nat.zero_le _,_,[],rs,by simpa using e2,rfl,⟨_,_,fr0⟩⟩,?_⟩
 rintro i mm σ' H' ⟨rfl,hi,Ei,acc,eN,ei,er,F',A',fri⟩
 obtain⟨go,stop⟩:=ok i B2 fri
 by_cases hlt:i < ds.length
 ·obtain⟨d,ed⟩:∃d,ds[i]? =some d:=⟨ds[i],uv hlt⟩
  obtain⟨g1,yl⟩:=go d ed
  have edr:ds.drop i=d::ds.drop (i+1):=by
   rw[List.drop_eq_getElem_cons hlt]
   congr 1
   exact Option.some.inj ((uv hlt).symm.trans ed)
  rw[edr]at ei
  obtain⟨E3,e3,ei⟩:=Za.mp ei
  obtain⟨⟨b,E4⟩,e4,ei⟩:=Za.mp ei
  refine .inr ⟨g1,fun σ2 H2=>∃Ej acc eN,dC tg cond el (ds.drop (i+1)) Ej=some eN∧rs=acc++eN∧Frm K H1 σ2 H2 Ej [.ref l] [.ow acc],fun σ2 H2 ⟨Ej,ac,rt,ej,er,frj⟩=>⟨ds.length - (i+1),by omega,rfl,hlt,Ej,ac,rt,ej,er,frj⟩,fun x H2 y=>?_⟩
  have clm:Calm [Sl.ow acc]:=Calm.cons (fun s hs=>absurd hs (by simp)) rfl
  refine⟨H1,Ei,[.ref l],[.ow acc],d,E3,yl x H2 y,(fun s hs=>by rw[Zab.mp hs];rfl),e3,fun σ3 H3 fr3=>htt _ _ _ ?_⟩
  refine⟨H1,E3,[.ref l],[.ow acc],b,E4,fr3,fun _=>clm,e4,fun H4 fr4=>?_⟩
  cases b with
  |false=>
   rw[if_neg (by decide)]
   exact⟨E4,acc,eN,ei,er,fr4⟩
  |true=>
   rw[if_pos rfl]
   obtain⟨⟨s5,E5⟩,e5,ei⟩:=Za.mp ei
   obtain⟨⟨d6,E6⟩,e6,ei⟩:=Za.mp ei
   obtain⟨rest',e7,ei⟩:=Zad.mp ei
   subst ei
   refine⟨H1,E4,[.ref l],[.ow acc],s5,E5,fr4,fun _=>clm,e5,fun y5 H5 ⟨F5,A5,fr5⟩=>?_⟩
   obtain⟨F6,A6,fr6⟩:=fr5.frz0 e6
   obtain⟨v',C1,ev,rfl,w,ew,ry⟩:=fr6.ext (k:=0) rfl
   cases ev;cases ew
   obtain⟨A7,fr7⟩:=fr6.pop
   -- the list under way is the one part that owns
   obtain⟨bf,fh,tf,sl,nd,frn,len,pl⟩:=fr7
   generalize hT:List.map some [V.ref l]++σ3=T at sl
   generalize hS:[Sl.ow acc]++E6=S at sl
   cases sl with
   |nil=>cases hS
   |cons q0 r0=>
    injection hT with h1 hT
    injection hS with h2 hS
    subst h1 h2 hT hS
    obtain⟨l',us,el,rfl,hl5,ru⟩:=q0
    cases el
    have lu:=ru.len
    refine⟨us,hl5,small (by rw[er]at hc;simp at hc;omega),E6,acc++[d6],rest',e7,by rw[er];simp,F6,_,bf,fun b o qb=>?_,?_,.cons (A:=[l]) ⟨l,us++[y5],rfl,rfl,upd_same,ru.snoc ry⟩ (r0.mono fun o s C hs hC qq=>qq.stay (Same.refl _) (fun b hb=>aB fun z=>?_) fun z=>?_),nd,frn,rfl,pl⟩
    ·have lF:F6 l=none:=frn l (by simp)
     rw[aB (fun z=>by rw[z,lF]at qb;cases qb)]
     exact fh _ _ qb
    ·rw[nZ hl5];exact tf
    ·have:=hC b hb
     rw[z]at this
     exact(List.nodup_cons.mp nd).1 this
    ·have:=pl s hs
     cases s <;> simp[Sl.isAl,Sl.isBr]at this z
 ·have e0:i=ds.length:=by omega
  refine .inl ⟨stop e0,?_⟩
  rw[e0,List.drop_length]at ei
  cases ei
  rw[qJ]at er
  subst er
  obtain⟨g1,g2⟩:=fri.result hc.1
  exact q _ _ (fr1.told g1 g2)
theorem rf{m m2 m3:Bool}{it:lq}{tg:gK}{cond:kG}{el:bH}{tt:TT}(htt:∀σ H Q,rt K m2 cond σ H Q→tt σ H Q){σ:mX}{H:Hp}{Q:VK}(z:rd K m (ce js it tg cond el) σ H Q):vR js (ri K m it) (rg K tg) tt (rd K m3 el) σ H Q:=by
 obtain⟨B,E,xs,Xs,res,E',fr,cl,e,q⟩:=z
 obtain⟨⟨ds,E1⟩,e1,e⟩:=Za.mp e
 obtain⟨rs,e2,e⟩:=Za.mp e
 simp only at e
 split at e
 ·rename_i hc
  cases e
  simp only[sy,decide_eq_true_eq]at hc
  exact⟨B,E,xs,Xs,ds,_,fr,cl,e1,fun B' J H1 hB ⟨F,A,fr1⟩ ok l hl=>xi htt (fr1.base hB) (fr1.bf.trans fr1.fh) ok e2 hc q l hl⟩
 ·cases e
theorem g7{m m3:Bool}{it:lq}{tg:gK}{el:bH}(C:CompOk X scope sc cl N js)(hc:X.calm=true)(hi:IX X target iter m it)(hg:∀C s₀ H₀ fp,GX (X.comp sc cl N C s₀ H₀ fp) target tg)(he:∀C s₀ H₀ fp,EX (X.comp sc cl N C s₀ H₀ fp) elt m3 el)
  (hs:∀x,foldedSetIterable iter X.env x=pure x:=by intro _;rfl):EX X (.ListComp elt [⟨target,iter,[],0⟩] scope pos) m (ce js it tg cr el):=
 bW (vS (g:=rg X.K tg) (te:=rd X.K m3 el) C hc hi hg (fun _ _ _ _=>vQ) he hs) fun σ H Q z=>rf (m2:=false) (fun σ H Q z=>by
  obtain⟨B,E,xs,Xs,b,E',fr,cl,e,q⟩:=z
  cases e
  exact q _ fr) z
theorem oj{c:Expr}{m m2 m3:Bool}{it:lq}{tg:gK}{cond:kG}{el:bH}(C:CompOk X scope sc cl N js)(hc:X.calm=true)(hi:IX X target iter m it)(hg:∀C s₀ H₀ fp,GX (X.comp sc cl N C s₀ H₀ fp) target tg)(ht:∀C s₀ H₀ fp,TX (X.comp sc cl N C s₀ H₀ fp) c m2 cond)(he:∀C s₀ H₀ fp,EX (X.comp sc cl N C s₀ H₀ fp) elt m3 el)
  (hs:∀x,foldedSetIterable iter X.env x=pure x:=by intro _;rfl):EX X (.ListComp elt [⟨target,iter,[c],0⟩] scope pos) m (ce js it tg cond el):=
 bW (vS (g:=rg X.K tg) (te:=rd X.K m3 el) (tt:=rt X.K m2 cond) C hc hi hg (fun _ _ _ _=>Bw (ht _ _ _ _)) he hs) fun σ H Q z=>rf (m2:=m2) (fun _ _ _ z=>z) z
end
end PL
namespace PL
open PySem L2 Nh
def keyOf:PyData→Option iC
 |.int i=>some (.inl i)
 |.str x=>some (.inr x)
 |_=>none
end PL
namespace PL
open PySem L2 Nh
theorem Ee{K:Frag}{m:Bool}{i:Nat}{f:bH}{D:Ends}{σ:mX}{H:Hp}(z:rs K (aD i f) D σ H):rd K m f σ H fun v H1=>yj i v σ H1 D.nx:=by
 obtain⟨B,E,xs,Xs,E',fl,fr,cl,e,q⟩:=z
 obtain⟨⟨s,E1⟩,e1,e⟩:=Za.mp e
 obtain⟨⟨s',E2⟩,e2,e⟩:=Za.mp e
 refine⟨B,E,xs,Xs,s,E1,fr,fun _=>Calm.nil cl,e1,fun v H1 ⟨F,A,fr1⟩=>?_⟩
 obtain⟨c1,F2,A2,fr2⟩:=fr1.settle cl e2
 simp only at e
 split at e
 ·rename_i hi
  cases e
  obtain⟨A3,fr3⟩:=fr2.store c1 (Still.nil cl) hi
  exact q _ _ ⟨F2,A3,fr3⟩
 ·cases e
section
variable {X:Cx} {elt target iter:Expr} {scope sc:Scope} {cl:List (Str×Addr)} {N:List Str} {pos spos px:Pos} {js:List (Option Nat)} {x:Str}
theorem y0{m m3:Bool}{it:lq}{tg:gK}{el:bH}(i:Nat)(hN:X.N.Nodup)(C:CompOk X scope sc cl N js)(hc:X.calm=true)(h:IX X target iter m it)(hg:∀C s₀ H₀ fp,GX (X.comp sc cl N C s₀ H₀ fp) target tg)(he:∀C s₀ H₀ fp,EX (X.comp sc cl N C s₀ H₀ fp) elt m3 el)
  (hi:X.N[i]? =some x:=by rfl) (hx:Do X.env.scope x:=by first |exact Or.inl rfl |exact Or.inr rfl) (hf:X.fn x=true∨X.env.scope.names.lookup x=some .local:=by first |exact .inl rfl |exact .inr rfl |assumption)
  (hs:∀x,foldedSetIterable iter X.env x=pure x:=by intro _;rfl) (hsw:swapsWith (.ListComp elt [⟨target,iter,[],0⟩] scope pos) (some (.Name x px)) spos.line X.env=pure true:=by rfl):
  SX X (.Assign [.Name x px] (.ListComp elt [⟨target,iter,[],0⟩] scope pos) spos) (aD i (ce js it tg cr el)):=
 kH (Bx (g:=rg X.K tg) (te:=rd X.K m3 el) C hc (vJ hN hi hx hf) h hg (fun _ _ _ _=>vQ) he hs hsw) fun D σ H z=>rf (m2:=false) (fun σ H Q z=>by
  obtain⟨B,E,xs,Xs,b,E',fr,cl,e,q⟩:=z
  cases e
  exact q _ fr) (Ee z)
end
end PL
namespace PL
open PySem L2 Nh
theorem lz{α:Type}(xs:List α)(k:Nat):atI xs (k:Int)=xs[k]? :=by
 unfold atI EU
 rw[if_pos (by omega)]
 split
 ·simp
 ·rw[List.getElem?_eq_none (by omega)];rfl
theorem sT{α:Type}(a:α)(l:List α):atI (a::l) 0=some a:=lz (a::l) 0
theorem y3{α:Type}(a b:α)(l:List α):atI (a::b::l) 1=some b:=lz (a::b::l) 1
theorem nK{α:Type}(l:List α)(a:α):atI (l++[a]) (-1)=some a:=by
 unfold atI EU
 rw[if_neg (by omega),if_pos (by simp;omega)]
 have e:(-1+(((l++[a]).length:Nat):Int)).toNat=l.length:=by simp;omega
 rw[e]
 simp
theorem y4{α:Type}{xs:List α}{i:Int}(h:0≤i):atI xs i=xs[i.toNat]? :=by
 have e:i=((i.toNat:Nat):Int):=by omega
 rw[e,lz,Int.toNat_natCast]
theorem rh{α:Type}(l:List α)(a:α):(l++[a])[(l++[a]).length - 1]? =some a:=by simp
theorem nM{α:Type}(l:List α)(a:α):(l++[a]).isEmpty=false:=by cases l <;> rfl
theorem flatA_all:∀{a:List PyData},(∀d∈a,cT d=true)→bE a=true
 |[],_=>rfl
 |x::a,h=>by simp[bE,h x (io ..),flatA_all fun d hd=>h d (il _ hd)]
theorem xj{α:Type}{f:α→PyData}(h:∀a,cT (f a)=true)(l:List α):bE (l.map f)=true:=flatA_all fun d hd=>by
 obtain⟨a,_,rfl⟩:=Zap.mp hd
 exact h a
theorem BJ(p:Pc):cT (aY p)=true:=rfl
theorem jy(c:List Pc):bE (c.map aY)=true:=xj BJ c
def uS{α:Type}(l:List α)(lo hi:Option Int):List α:=(l.drop (HT.pG l.length 0 lo)).take (HT.pG l.length l.length hi - HT.pG l.length 0 lo)
theorem y7{α:Type}(f:α→PyData)(l:List α)(lo hi:Option Int):fS (l.map f) lo hi=(uS l lo hi).map f:=by
 unfold fS uS
 rw[fH,List.map_take,List.map_drop]
theorem y8{α:Type}(l:List α)(lo hi:Option Int):(uS l lo hi).length≤l.length:=by
 unfold uS
 rw[List.length_take,List.length_drop]
 omega
theorem xk(lo:Int)(n:Nat):oh lo (n+1)=.int lo::oh (lo+1) n:=by
 unfold oh
 rw[List.range_succ_eq_map,dN,List.map_map]
 simp only[Int.natCast_zero,Int.add_zero]
 congr 1
 refine List.map_congr_left fun k _=>?_
 show PyData.int (lo+((k+1:Nat):Int))=PyData.int (lo+1+(k:Int))
 congr 1
 omega
end PL
namespace L2
open PySem PySem.Spec PyProof.Rows
def Gk(x:Str):It:=⟨fun i _=>i < x.cps.toList.length,fun i H v H'=>H'=H∧∃c,x.cps.toList[i]? =some c∧v=.str ⟨#[c]⟩,fun i _=>i=x.cps.toList.length⟩
theorem y9 {P:Program} {w:World} {K:Frag} {tg:Expr} {it:Addr} {T:String} {x:Str} {t:Tok} (hT:T="str_ascii_iterator"∨T="str_iterator"):Turn P w K tg (Gk x) [it] it (fun i h=>h.IsStrIter it T x t i) where
 mem:=by simp
 obj:=fun i h st b hb=>by
  have e:b=it:=by simpa using hb
  subst e
  obtain⟨o,e,c,d⟩:=st
  exact⟨o,e,fun v z=>by rw[d]at z;cases z⟩
 keep:=fun i h h' st k=>let ⟨o,ho,r⟩:=st;⟨o,k it (by simp) o ho,r⟩
 item:=by
  intro X hP hw hK hc i pins s σ H E I hf st hg
  subst hP hw hK
  obtain⟨f0,f1,f2,f3,f4,f5⟩:=hf it (by simp)
  have hi:i < x.cps.toList.length:=hg
  have hx:x.cps[i]? =some (x.cps.toList[i]'hi):=by simp at hi;simp[hi]
  have fin:∀(h':Heap),h'.IsStrIter it T x t (i+1)→Heap.SameBut it s.heap h'→∃u,some (Value.str ⟨#[x.cps.toList[i]'hi]⟩ s.toks)=some u∧
    wpAny (model X.prog X.w) X.A (letOwnedTupleGo tg (.ref it) u) (fun _ s2=>∃v H',Inv X pins σ H' s2∧RelV v u∧(Gk x).yld i H v H'∧s2.heap.IsStrIter it T x t (i+1)∧∀b∈[it],H' b=none) E {s with heap:=h',toks:=s.toks+1}:=fun h' st' sb=>by
   have I1:Inv X pins σ H {s with heap:=h',toks:=s.toks+1}:=I.turned (t':=s.toks+1) (fun b o hb e=>(sb.2 b hb).trans e) f0 f1 f3 f4 f5
   obtain⟨o,e,c,d⟩:=id st'
   exact⟨_,rfl,vK (s:={s with heap:=h',toks:=s.toks+1}) e c d (by rcases hT with rfl |rfl <;> decide) ⟨.str ⟨#[x.cps.toList[i]'hi]⟩,H,I1,⟨_,rfl⟩,⟨rfl,_,uv hi,rfl⟩,st',fun b hb=>(hf b hb).1⟩⟩
  rcases hT with rfl |rfl
  ·exact wpAny_pyNext_ascii_item st hx fun h' st' sb=>fin h' st' sb
  ·exact wpAny_pyNext_wide_item st hx fun h' st' sb=>fin h' st' sb
 done:=by
  intro X hP hw hK hc i pins s σ H E I hf st hg
  subst hP hw hK
  obtain⟨f0,f1,f2,f3,f4,f5⟩:=hf it (by simp)
  have hi:i=x.cps.toList.length:=hg
  have hx:x.cps[i]? =none:=by simp at hi;simp[hi]
  rcases hT with rfl |rfl
  ·exact wpAny_pyNext_ascii_end (I.ok.hd hc) st hx fun h' eb=>⟨rfl,I.turned (t':=s.toks) (fun b o hb e=>eb b o hb e) f0 f1 f3 f4 f5⟩
  ·exact wpAny_pyNext_wide_end (I.ok.hd hc) st hx fun h' eb=>⟨rfl,I.turned (t':=s.toks) (fun b o hb e=>eb b o hb e) f0 f1 f3 f4 f5⟩
 self:=fun _ _ _ _ _ st h=>by
  rcases hT with rfl |rfl
  ·exact wpAny_pyIter_striter_ascii st h
  ·exact wpAny_pyIter_striter_wide st h
def GY(tl:TE):TI:=fun σ H R=>tl σ H fun v H1=>∃x,v=.str x∧R (Gk x) H1
theorem Ef{X:Cx}{tg l:Expr}{tl:TE}(hl:PE X l tl):PI X tg l (GY tl):=by
 intro pins s σ H R I h
 refine eG (hl pins s σ H _ I h) fun v s1 ⟨y,H1,I1,r1,q1⟩=>?_
 obtain⟨x,e,q⟩:=q1
 subst e
 obtain⟨t,rfl⟩:=r1
 refine wpAny_pyIter_strU ?_
 refine⟨s1.heap.objs.size,[s1.heap.objs.size],fun i h=>h.IsStrIter s1.heap.objs.size (strIterType x) x t i,_,H1,rfl,I1.kept (t':=s1.toks) fun b o e=>gw _ e,y9 (t:=t) ?_,⟨_,lh _ rfl,rfl,rfl⟩,fun b hb=>?_,q⟩
 ·unfold strIterType
  split
  ·exact .inl rfl
  ·exact .inr rfl
 ·have e:b=s1.heap.objs.size:=by simpa using hb
  subst e
  exact I1.fpOk (fQ _) (I1.hok.fresh (fQ _))
theorem PI.or{X:Cx}{tg l:Expr}{a b:TI}(h1:PI X tg l a)(h2:PI X tg l b):PI X tg l (fun σ H R=>a σ H R∨b σ H R):=by
 intro pins s σ H R I h
 rcases h with h |h
 ·exact h1 pins s σ H R I h
 ·exact h2 pins s σ H R I h
end L2
namespace PL
open PySem L2 Nh
def iy(x:Str):List PyData:=x.cps.toList.map fun c=>.str ⟨#[c]⟩
def bt(f:bH):lq:=fun E=>(f E).bind fun a=>(frz a.2 a.1).bind fun b=>match b.1 with
 |.list ds=>some (ds,b.2)
 |.tuple ds=>some (ds,b.2)
 |.str x=>some (iy x,b.2)
 |_=>none
section
variable {X:Cx} {K:Frag} {B:Hp}
theorem y_{x:Str}:uQ K B (Gk x) (iy x):=fun {B' F A σ H E xs Xs} i sB fr=>by
 refine⟨fun d ed=>?_,fun e=>by show i=x.cps.toList.length;rw[e];simp[iy]⟩
 unfold iy at ed
 rw[List.getElem?_map]at ed
 obtain⟨c,ec,rfl⟩:=Zad.mp ed
 refine⟨(Zba.mp ec).1,fun z H2 ⟨e1,c',e2,e3⟩=>?_⟩
 rw[ec]at e2;cases e2
 subst e1 e3
 exact⟨F,A,fr.push ⟨rfl,_,rfl,.str _⟩⟩
theorem za{a:Addr}{vs:List V}{ds:List PyData}(h:SqT K B a vs)(r:RpA K B vs ds):uQ K B (GB K a) ds:=fun {B' F A σ H E xs Xs} i sB fr=>by
 have hH:=fr.fh.tup (fr.bf.tup (sB.tup h))
 refine⟨fun d ed=>?_,fun e=>⟨vs,hH,by rw[e,r.len];exact fQ _⟩⟩
 obtain⟨v,ev,rv⟩:=r.get ed
 refine⟨⟨vs,v,hH,ev⟩,fun x H2 ⟨e2,y⟩=>?_⟩
 subst e2
 have:=y vs hH
 rw[ev]at this
 cases this
 exact⟨F,A,fr.push ⟨rfl,_,rfl,rv.same (sB.trans fr.bf)⟩⟩
theorem dF{tg e:Expr}{m:Bool}{f:bH}(he:EX X e m f):IX X tg e m (bt f):=yZ (PI.or (Bc he) (PI.or (DB he) (Ef he))) fun σ H R z=>by
 obtain⟨B,E,xs,Xs,ds,E',fr,cl,e,q⟩:=z
 obtain⟨⟨s,E1⟩,e1,e⟩:=Za.mp e
 obtain⟨⟨d,E2⟩,e2,e⟩:=Za.mp e
 have key:∀(v:V) (H1:Hp),Frm X.K B σ H1 E1 (v::xs) (s::Xs)→∃F2 A2 A3,Rp X.K F2 v d∧Same B F2∧FrF X.K F2 F2 A3 σ H1 E2 xs Xs∧FrF X.K B F2 A2 σ H1 E2 (v::xs) (.sh d::Xs):=fun v H1 ⟨F,A,fr1⟩=>by
  obtain⟨F2,A2,fr2⟩:=fr1.frz0 e2
  obtain⟨v',A1,ev,rfl,w,ew,r⟩:=fr2.ext (k:=0) rfl
  cases ev;cases ew
  obtain⟨A3,fr3⟩:=fr2.pop
  exact⟨F2,A2,A3,r,fr2.bf,fr3.raise,fr2⟩
 simp only at e
 split at e
 ·cases e
  refine .inl ⟨B,E,xs,Xs,s,E1,fr,cl,e1,fun v H1 fr1=>?_⟩
  obtain⟨F2,A2,A3,r,sb,fr3,fr2⟩:=key v H1 fr1
  cases r with
  |lst h1 h2=>exact⟨_,rfl,⟨_,fr2.fh.seq h1⟩,q F2 _ _ sb ⟨F2,A3,fr3⟩ (xg h1 h2)⟩
 ·cases e
  refine .inr (.inl ⟨B,E,xs,Xs,s,E1,fr,cl,e1,fun v H1 fr1=>?_⟩)
  obtain⟨F2,A2,A3,r,sb,fr3,fr2⟩:=key v H1 fr1
  cases r with
  |tup h1 h2=>exact⟨_,rfl,⟨_,fr2.fh.tup h1⟩,q F2 _ _ sb ⟨F2,A3,fr3⟩ (za h1 h2)⟩
 ·cases e
  refine .inr (.inr ⟨B,E,xs,Xs,s,E1,fr,cl,e1,fun v H1 fr1=>?_⟩)
  obtain⟨F2,A2,A3,r,sb,fr3,fr2⟩:=key v H1 fr1
  cases r
  exact⟨_,rfl,q F2 _ _ sb ⟨F2,A3,fr3⟩ y_⟩
 ·cases e
end
end PL
namespace PL
open PySem L2 Nh
inductive Cm where
 |lt |le |gt |ge
def Cm.op:Cm→CmpOp
 |.lt=> .Lt
 |.le=> .LtE
 |.gt=> .Gt
 |.ge=> .GtE
def Cm.i:Cm→Int→Int→Bool
 |.lt,i,j=>decide (i < j)
 |.le,i,j=>decide (i≤j)
 |.gt,i,j=>decide (j < i)
 |.ge,i,j=>decide (j≤i)
def Cm.s:Cm→List Nat→List Nat→Bool
 |.lt,i,j=>decide (i < j)
 |.le,i,j=> !decide (j < i)
 |.gt,i,j=>decide (j < i)
 |.ge,i,j=> !decide (i < j)
def g8(c:Cm):PyData→PyData→Option PyData
 |.int i,.int j=>some (.bool (c.i i j))
 |.str x,.str y=>some (.bool (c.s x.cps.toList y.cps.toList))
 |_,_=>none
def Hn(c:Cm):R2:=fun x y H Q=>(∃i j,x=.int i∧y=.int j∧Q (.bl (c.i i j)) H)∨(∃i j,x=.str i∧y=.str j∧Q (.bl (c.s i.cps.toList j.cps.toList)) H)
section
variable {X:Cx} {a b c:Expr} {m1 m2 m3:Bool} {f g h:bH} {pos:Pos} {K:Frag}
theorem zb(c:Cm):OpR X (compareOp c.op) (Hn c):=by
 cases c with
 |lt=>exact OpR.or Fj wU
 |le=>exact OpR.or Fk (fun pins s σ H x y v u Q I rx ry h=>by
   obtain⟨i,j,rfl,rfl,q⟩:=h
   obtain⟨t,rfl⟩:=rx
   obtain⟨t',rfl⟩:=ry
   exact PySem.P.le_str (aZ I q rfl))
 |gt=>exact OpR.or Fm (fun pins s σ H x y v u Q I rx ry h=>by
   obtain⟨i,j,rfl,rfl,q⟩:=h
   obtain⟨t,rfl⟩:=rx
   obtain⟨t',rfl⟩:=ry
   exact PySem.P.gt_str (aZ I q rfl))
 |ge=>exact OpR.or Fn (fun pins s σ H x y v u Q I rx ry h=>by
   obtain⟨i,j,rfl,rfl,q⟩:=h
   obtain⟨t,rfl⟩:=rx
   obtain⟨t',rfl⟩:=ry
   exact PySem.P.ge_str (aZ I q rfl))
theorem zc(c:Cm):w_ K (Hn c) (g8 c):=fun d1 d2 d v1 v2 H Q e r1 r2=>by
 unfold g8 at e
 split at e
 ·cases e;cases r1;cases r2
  exact⟨_,rfl,fun q=>.inl ⟨_,_,rfl,rfl,q⟩⟩
 ·cases e;cases r1;cases r2
  exact⟨_,rfl,fun q=>.inr ⟨_,_,rfl,rfl,q⟩⟩
 ·cases e
theorem xl(c:Cm)(b:Expr):behindInMarks c.op b=false:=by cases c <;> exact qL _
theorem v9(c:Cm)(ha:EX X a m1 f)(hb:EX X b m2 g):TX X (.Compare a [c.op] [b] pos) (m1||m2) (gS (ag (fu (g8 c)) m2 f g)):=mh (zb c) (kI (zc c)) ha hb (xl c b)
theorem FJ(c1 c2:Cm)(ha:EX X a m1 f)(hb:EX X b m2 g)(hc:EX X c m3 h)(hm:lastMarks [c1.op,c2.op] [b,c]=false:=by with_unfolding_all rfl):EX X (.Compare a [c1.op,c2.op] [b,c] pos) (m1||(m2||m3)) (kJ (g8 c1) (g8 c2) m2 m3 f g h):=yP (zb c1) (zb c2) (zc c1) (zc c2) ha hb hc hm
def uT:P2:=fu (mi (fun _ _=>true) fun i j=>.int (Builtin.bitAnd i j))
theorem v_(ha:EX X a m1 f)(hb:EX X b m2 g):EX X (.BinOp a .BitAnd b pos) (m1||m2) (ag uT m2 f g):=n8 (r:=EV (fun _ _=>true) fun i j=>.int (Builtin.bitAnd i j)) (OpR.imp DH fun x y H Q ⟨i,j,a,b,_,q⟩=>⟨i,j,a,b,q⟩) (qY fun _ _=>rfl) ha hb
def gC:List PyData→Option (List Str)
 |[]=>some []
 |.str x::ds=>(gC ds).map fun xs=>x::xs
 |_::_=>none
def rj:List PyData→Option (List Int)
 |[]=>some []
 |.int x::ds=>(rj ds).map fun xs=>x::xs
 |_::_=>none
theorem iI:∀{ds:List PyData} {xs:List Str},gC ds=some xs→ds=xs.map .str
 |[],xs,h=>by cases h;rfl
 |d::ds,xs,h=>by
  cases d with
  |str x=>
   obtain⟨ys,e,rfl⟩:=Zad.mp h
   rw[iI e];rfl
  |_=>cases h
theorem ml:∀{ds:List PyData} {xs:List Int},rj ds=some xs→ds=xs.map .int
 |[],xs,h=>by cases h;rfl
 |d::ds,xs,h=>by
  cases d with
  |int x=>
   obtain⟨ys,e,rfl⟩:=Zad.mp h
   rw[ml e];rfl
  |_=>cases h
theorem jz{H:Hp}:∀{vs:List V} {xs:List Str},RpA K H vs (xs.map .str)→vs=xs.map .str
 |[],[],_=>rfl
 |v::vs,x::xs,.cons h r=>by cases h;rw[jz r];rfl
theorem om{H:Hp}:∀{vs:List V} {xs:List Int},RpA K H vs (xs.map .int)→vs=xs.map .int
 |[],[],_=>rfl
 |v::vs,x::xs,.cons h r=>by cases h;rw[om r];rfl
def EW:PyData→PyData→Option Bool
 |.str x,.str y=>some (!(Builtin.Str.occurrences y x 0 y.length 1).isEmpty)
 |.str x,.list ds=>(gC ds).map fun xs=>xs.contains x
 |.str x,.tuple ds=>(gC ds).map fun xs=>xs.contains x
 |.int x,.list ds=>(rj ds).map fun xs=>xs.contains x
 |.int x,.tuple ds=>(rj ds).map fun xs=>xs.contains x
 |_,_=>none
def Eg(K:Frag)(neg:Bool):R2:=fun x y H Q=>(∃i j,x=.str i∧y=.str j∧Q (.bl (if neg then !(!(Builtin.Str.occurrences j i 0 j.length 1).isEmpty)else !(Builtin.Str.occurrences j i 0 j.length 1).isEmpty)) H)∨Gi K neg x y H Q
theorem sU(x:Str)(xs:List Str):CS (.str x) (xs.map .str)=xs.contains x:=by
 induction xs with
 |nil=>rfl
 |cons y xs ih=>
  rw[List.contains_cons,←ih]
  show(yA (.str y) (.str x)||CS (.str x) (xs.map .str))=_
  congr 1
  show(y == x)=(x == y)
  exact BEq.comm
theorem sW(x:Int)(xs:List Int):CS (.int x) (xs.map .int)=xs.contains x:=by
 induction xs with
 |nil=>rfl
 |cons y xs ih=>
  rw[List.contains_cons,←ih]
  show(yA (.int y) (.int x)||CS (.int x) (xs.map .int))=_
  congr 1
  show(y == x)=(x == y)
  exact BEq.comm
theorem zd(neg:Bool):w_ K (Eg K neg) (fun d1 d2=>(EW d1 d2).map fun b=>.bool (if neg then !b else b)):=fun d1 d2 d v1 v2 H Q e r1 r2=>by
 obtain⟨b,e',rfl⟩:=Zad.mp e
 clear e
 have e:=e'
 clear e'
 refine⟨_,rfl,fun q=>?_⟩
 have hs:∀xs:List Str,(xs.map V.str).all iE=true:=fun xs=>by simp[Zbg,iE]
 have hi:∀xs:List Int,(xs.map V.int).all iE=true:=fun xs=>by simp[Zbg,iE]
 unfold EW at e
 split at e
 ·cases e;cases r1;cases r2
  exact .inl ⟨_,_,rfl,rfl,q⟩
 ·obtain⟨xs,ex,rfl⟩:=Zad.mp e
  cases r1
  cases r2 with
  |lst h1 h2=>
   rw[iI ex]at h2
   rw[jz h2]at h1
   exact .inr ⟨_,_,rfl,.inl h1,rfl,hs _,by rw[sU];exact q⟩
 ·obtain⟨xs,ex,rfl⟩:=Zad.mp e
  cases r1
  cases r2 with
  |tup h1 h2=>
   rw[iI ex]at h2
   rw[jz h2]at h1
   exact .inr ⟨_,_,rfl,.inr h1,rfl,hs _,by rw[sU];exact q⟩
 ·obtain⟨xs,ex,rfl⟩:=Zad.mp e
  cases r1
  cases r2 with
  |lst h1 h2=>
   rw[ml ex]at h2
   rw[om h2]at h1
   exact .inr ⟨_,_,rfl,.inl h1,rfl,hi _,by rw[sW];exact q⟩
 ·obtain⟨xs,ex,rfl⟩:=Zad.mp e
  cases r1
  cases r2 with
  |tup h1 h2=>
   rw[ml ex]at h2
   rw[om h2]at h1
   exact .inr ⟨_,_,rfl,.inr h1,rfl,hi _,by rw[sW];exact q⟩
 ·cases e
def C8(neg:Bool):P2:=fu fun d1 d2=>(EW d1 d2).map fun b=>.bool (if neg then !b else b)
theorem Eh:OpR X (compareOp .In) (Eg X.K false):=OpR.or wV p8
theorem xm:OpR X (compareOp .NotIn) (Eg X.K true):=OpR.or qP qO
theorem FK(ha:EX X a m1 f)(hb:EX X b m2 g)(hm:behindInMarks .In b=false:=by with_unfolding_all rfl):TX X (.Compare a [.In] [b] pos) (m1||m2) (gS (ag (C8 false) m2 f g)):=mh Eh (kI (zd false)) ha hb hm
theorem Ek(ha:EX X a m1 f)(hb:EX X b m2 g)(hm:behindInMarks .NotIn b=false:=by with_unfolding_all rfl):TX X (.Compare a [.NotIn] [b] pos) (m1||m2) (gS (ag (C8 true) m2 f g)):=mh xm (kI (zd true)) ha hb hm
end
def oo(x:Str):PyData→Option PyData
 |.list ds=>(gC ds).bind fun ys=>if (ys.map (·.length)).sum+ys.length*x.length≤1000000 then some (.str (Txt.join x ys))else none
 |.tuple ds=>(gC ds).bind fun ys=>if (ys.map (·.length)).sum+ys.length*x.length≤1000000 then some (.str (Txt.join x ys))else none
 |_=>none
theorem qd{ys:List Str}:∀{us:List Value},Vals (ys.map V.str) us→PyProof.Rows.StrsAre us ys:=by
 induction ys with
 |nil=>intro us h;cases h;exact .nil
 |cons y ys ih=>
  intro us h
  cases h with
  |cons h r=>
   obtain⟨t,rfl⟩:=h
   exact .cons y t (ih r)
def FL(K:Frag):V→List V→Hp→VK→Prop:=fun x vs H Q=>∃z p ys,x=.str z∧vs=[.ref p]∧(SqL K H p (ys.map .str)∨SqT K H p (ys.map .str))∧(ys.map (·.length)).sum+ys.length*z.length≤16777216∧Q (.str (Txt.join z ys)) H
theorem BK{X:Cx}:GL X "str.join" (FL X.K):=by
 intro pins s σ H x vs v us Q I rx rv h
 obtain⟨z,p,ys,rfl,rfl,hq,hl,q⟩:=h
 obtain⟨t,rfl⟩:=rx
 obtain⟨u,rfl,ru⟩:=rv.one
 cases ru
 rcases hq with hq |hq
 ·obtain⟨its,r,pl,_⟩:=I.list hq
  exact PyProof.Rows.join_list pl.isList (by simpa using qd r) hl fun t' k=>⟨.str _,H,I.tok _,⟨_,rfl⟩,q⟩
 ·obtain⟨its,r,pl,_⟩:=I.tuple hq
  exact PyProof.Rows.join_tuple pl (by simpa using qd r) hl fun t' k=>⟨.str _,H,I.tok _,⟨_,rfl⟩,q⟩
section
variable {X:Cx} {e o:Expr} {m1 m2:Bool} {g:ln} {f h:bH} {p pos apos cpos:Pos} {K:Frag}
def e_(x:Str)(f:bH):bH:=iP (oo x) f
theorem iT {x:Str} {j:Nat} {sp:Pos} (he:EX X e m1 f) (hs:starEach [e] X.env=[(false,eval e X.env)]:=by rfl) (hbase:attributeBase (.Constant (.str x) j sp) "join" X.env (eval (.Constant (.str x) j sp) X.env)=eval (.Constant (.str x) j sp) X.env:=by rfl)
  (hfew:((backTo cpos (starEach [e] X.env)).all (fun x=> !x.1)&&(backToKw cpos (keywordEach [] X.env)).all (fun x=>x.1.isSome)
   &&decide (([e]:List Expr).length+([]:List Keyword).length+(if ([]:List Keyword).isEmpty then 0 else 1) < 30))=true:=by rfl) (hline:(apos.endLine == cpos.line)=true:=by rfl):
  EX X (.Call (.Attribute (.Constant (.str x) j sp) "join" apos) [e] [] cpos) m1 (e_ x f):=by
 refine bW (CT PySem.F.plainAttrs_str PySem.F.slot_str_join PySem.F.type_str_join BK (uD) (eI he gy hs) hbase hfew hline hs rfl) fun σ H Q z=>?_
 obtain⟨B,E,xs,Xs,res,E',fr,c,e,q⟩:=z
 obtain⟨⟨s1,E1⟩,e1,e⟩:=Za.mp e
 obtain⟨d1,e2,e⟩:=Za.mp e
 obtain⟨d,e3,e⟩:=Zad.mp e
 cases e
 refine⟨rfl,B,E,xs,Xs,s1,E1,fr,c,e1,fun v1 H1 ⟨F,A,fr1⟩=>?_⟩
 have r:=(fr1.look0 e2).1
 obtain⟨A',fr2⟩:=fr1.pop
 unfold oo at e3
 split at e3
 ·obtain⟨ys,ey,e3⟩:=Za.mp e3
  split at e3
  ·rename_i hl
   cases e3
   cases r with
   |lst h1 h2=>
    rw[iI ey]at h2
    rw[jz h2]at h1
    exact⟨x,_,ys,rfl,rfl,.inl h1,by omega,q _ _ ⟨F,A',fr2.push ⟨rfl,_,rfl,.str _⟩⟩⟩
  ·cases e3
 ·obtain⟨ys,ey,e3⟩:=Za.mp e3
  split at e3
  ·rename_i hl
   cases e3
   cases r with
   |tup h1 h2=>
    rw[iI ey]at h2
    rw[jz h2]at h1
    exact⟨x,_,ys,rfl,rfl,.inr h1,by omega,q _ _ ⟨F,A',fr2.push ⟨rfl,_,rfl,.str _⟩⟩⟩
  ·cases e3
 ·cases e3
end
theorem jA{X:Cx}{st:Stmt}:SX X st (fun _=>none):=kH yi fun D σ H z=>by
 obtain⟨B,E,xs,Xs,E',fl,fr,cl,e,q⟩:=z
 cases e
def rk:dO:=fun _=>none
end PL
namespace PL
open PySem L2 Nh
theorem El{X:Cx}:SlR X (fun x lo hi H Q=>∃z,x=.str z∧z.length≤sizeLine∧Q (.str (Txt.slice z lo hi)) H):=by
 intro pins s σ H x v vl vu lo hi sl Q I rx hs pl pu h
 obtain⟨z,rfl,hz,q⟩:=h
 obtain⟨t,rfl⟩:=rx
 cases pl with
 |none=>
  cases pu with
  |none=>exact⟨"str",_,PySem.F.slot_str_getitem.lookup,typeIs_str _ _ _,wpAny_getItem_str_slice (l:=none) (u:=none) (st:=none) hs rfl (post_val_or_str ⟨kb (Txt.slice_le z _ _) hz,fun t' k=>⟨.str _,H,I.tok _,⟨_,rfl⟩,q⟩⟩)⟩
  |int j uj=>exact⟨"str",_,PySem.F.slot_str_getitem.lookup,typeIs_str _ _ _,wpAny_getItem_str_slice (l:=none) (u:=some (j,uj)) (st:=none) hs rfl (post_val_or_str ⟨kb (Txt.slice_le z _ _) hz,fun t' k=>⟨.str _,H,I.tok _,⟨_,rfl⟩,q⟩⟩)⟩
 |int i ui=>
  cases pu with
  |none=>exact⟨"str",_,PySem.F.slot_str_getitem.lookup,typeIs_str _ _ _,wpAny_getItem_str_slice (l:=some (i,ui)) (u:=none) (st:=none) hs rfl (post_val_or_str ⟨kb (Txt.slice_le z _ _) hz,fun t' k=>⟨.str _,H,I.tok _,⟨_,rfl⟩,q⟩⟩)⟩
  |int j uj=>exact⟨"str",_,PySem.F.slot_str_getitem.lookup,typeIs_str _ _ _,wpAny_getItem_str_slice (l:=some (i,ui)) (u:=some (j,uj)) (st:=none) hs rfl (post_val_or_str ⟨kb (Txt.slice_le z _ _) hz,fun t' k=>⟨.str _,H,I.tok _,⟨_,rfl⟩,q⟩⟩)⟩
def fe(m2:Bool)(f:bH)(lo hi:D9):bH:=fun E=>(f E).bind fun a=>if m2&&a.1.isBr then none else (lo a.2).bind fun b=>(hi b.2).bind fun c=>match look c.2 a.1 with
 |some (.list ds)=>if !gZ c.2 a.1||bE (fS ds b.1 c.1)then some (.ow (fS ds b.1 c.1),c.2)else none
 |some (.str z)=>if z.length≤1000000 then some (.sh (.str (Txt.slice z b.1 c.1)),c.2)else none
 |_=>none
theorem kK{X:Cx}{e:Expr}{lo hi:Option Expr}{m1 m2 m3:Bool}{f:bH}{g h:D9}{pos p2:Pos}(he:EX X e m1 f)(hl:OX X lo m2 g)(hh:OX X hi m3 h):EX X (.Subscript e (.Slice lo hi none p2) pos) (m1||(m2||m3)) (fe (m2||m3) f g h):=by
 refine bW (yz (SlR.or Bo El) he hl hh) fun σ H Q z=>?_
 obtain⟨B,E,xs,Xs,res,E',fr,cl,e,q⟩:=z
 obtain⟨⟨s,E1⟩,e1,e⟩:=Za.mp e
 by_cases hb:((m2||m3)&&s.isBr)=true
 ·rw[if_pos hb]at e;cases e
 rw[if_neg hb]at e
 have n1:(m2||m3)=true→s.isBr=false:=fun z=>by
  cases hs:s.isBr with
  |false=>rfl
  |true=>exact absurd (by rw[z,hs];rfl) hb
 obtain⟨⟨l,E2⟩,e2,e⟩:=Za.mp e
 obtain⟨⟨u,E3⟩,e3,e⟩:=Za.mp e
 refine⟨B,E,xs,Xs,s,E1,fr,fun z=>cl (by simp[z]),e1,fun v1 H1 fr1=>?_⟩
 refine⟨B,E1,v1::xs,s::Xs,l,E2,fr1,fun z=>Calm.cons (cl (by simp[z])) (n1 (by simp[z])),e2,fun H2 fr2=>?_⟩
 refine⟨B,E2,v1::xs,s::Xs,u,E3,fr2,fun z=>Calm.cons (cl (by simp[z])) (n1 (by simp[z])),e3,fun H3 ⟨F,A,fr3⟩=>?_⟩
 simp only at e
 split at e
 ·rename_i ds ld
  split at e
  ·rename_i hc
   cases e
   obtain⟨v,ev,r,f0⟩:=fr3.look (k:=0) rfl ld
   cases ev
   obtain⟨A',fr4⟩:=fr3.pop
   cases hh:gZ E' s with
   |false=>
    obtain⟨a,vs,rfl,h1,h2⟩:=f0 hh
    exact .inl ⟨a,vs,rfl,h1,fun p hp=>q _ _ ⟨F,_,fr4.newl (h2.cut l u) hp⟩⟩
   |true=>
    rw[hh]at hc
    cases r with
    |lst h1 h2=>exact .inl ⟨_,_,rfl,h1,fun p hp=>q _ _ ⟨F,_,fr4.newl (fr3.coldA (h2.cut l u) (by simpa using hc)) hp⟩⟩
  ·cases e
 ·rename_i z ld
  split at e
  ·rename_i hc
   cases e
   have r:=(fr3.look0 ld).1
   cases r
   obtain⟨A',fr4⟩:=fr3.pop
   exact .inr ⟨_,rfl,fW hc,q _ _ ⟨F,A',fr4.push ⟨rfl,_,rfl,.str _⟩⟩⟩
  ·cases e
 ·cases e
def jB(scope:Scope)(env:Env):List (Str×Addr):=((scope.names.filter fun p=>p.2 ==.free).map fun p=>(p.1,(env.cells.lookup p.1).getD 0)).reverse
theorem g9{X:Cx}{scope:Scope}{N:List Str}{js:List (Option Nat)}(clos:closureFor scope X.env=pure (jB scope X.env):=by rfl)(nocell:∀y∈scope.names,y.2≠ .cell:=by decide+kernel)(kind:scope.kind=.function:=by rfl)
  (names:∀y∈scope.names,y.2=.local→scope.names.lookup y.1=some .local:=by decide+kernel) (same:(scope.names.filter fun p=>p.2 ==.free).all (fun p=>(X.env.cells.lookup p.1).isSome)=true:=by rfl)
  (has:(relabel scope X.env).names.all (fun y=> !(y.2 ==.cell||y.2 ==.free)||((jB scope X.env).lookup y.1).isSome)=true:=by rfl) (len:js.length=N.length:=by rfl)
  (fr:(js.zip N).all (fun p=>match p.1 with |none=>true |some j=>X.N[j]? == some p.2&&((relabel scope X.env).names.lookup p.2 == some .cell||(relabel scope X.env).names.lookup p.2 == some .free)&&(X.env.kindOf p.2 == some .cell||X.env.kindOf p.2 == some .free))=true:=by rfl):
  CompOk X scope (relabel scope X.env) (jB scope X.env) N js where
 clos:=clos
 rel:=rfl
 nocell:=nocell
 kind:=kind
 names:=names
 same:=fun x c e=>by
  have hm:=PySem.mem_of_lookup e
  unfold jB at hm
  obtain⟨p,hp,ep⟩:=Zap.mp (List.mem_reverse.mp hm)
  have:=Zbg.mp same _ hp
  obtain⟨c',ec⟩:=Option.isSome_iff_exists.mp this
  injection ep with e1 e2
  subst e1
  rw[ec]at e2 ⊢
  exact congrArg some e2
 has:=fun x h=>by
  have key:∀k,(relabel scope X.env).names.lookup x=some k→(k == NameKind.cell||k == NameKind.free)=true→∃c,(jB scope X.env).lookup x=some c:=fun k h hk=>by
   have:=Zbg.mp has _ (PySem.mem_of_lookup h)
   simp only[hk,Bool.not_true,Bool.false_or]at this
   exact Option.isSome_iff_exists.mp this
  rcases h with h |h
  ·exact key _ h rfl
  ·exact key _ h rfl
 len:=len
 from_:=fun i j h=>by
  have hi:i < js.length:=(Zba.mp h).1
  obtain⟨x,ex⟩:∃x,N[i]? =some x:=⟨N[i]'(by omega),uv (by omega)⟩
  have hz:(js.zip N)[i]? =some (some j,x):=by rw[List.getElem?_zip_eq_some];exact⟨h,ex⟩
  have:=Zbg.mp fr _ (List.mem_of_getElem? hz)
  simp only[sy,Bool.or_eq_true,beq_iff_eq]at this
  exact⟨x,ex,this.1.1,this.1.2,this.2⟩
structure Bn (mg:Str→Option Value):Prop where
 len:mg "len"=none
 range:mg "range"=none
 abs:mg "abs"=none
 min:mg "min"=none
 max:mg "max"=none
 reversed:mg "reversed"=none
 enumerate:mg "enumerate"=none
 isinstance:mg "isinstance"=none
 list:mg "list"=none
 tuple:mg "tuple"=none
 str:mg "str"=none
 int:mg "int"=none
 bool:mg "bool"=none
 sorted:mg "sorted"=none
 zip:mg "zip"=none
 sum:mg "sum"=none
 any:mg "any"=none
 all:mg "all"=none
 set:mg "set"=none
 dict:mg "dict"=none
theorem FM{K:Frag}{h:Heap}{mg:Str→Option Value}(X:K.In h)(G:h.Ns mainGlobals mg)
  (z1:nsIn K mainGlobals "len"=some none) (z2:nsIn K mainGlobals "range"=some none) (z3:nsIn K mainGlobals "abs"=some none) (z4:nsIn K mainGlobals "min"=some none) (z5:nsIn K mainGlobals "max"=some none) (z6:nsIn K mainGlobals "reversed"=some none) (z7:nsIn K mainGlobals "enumerate"=some none) (z8:nsIn K mainGlobals "isinstance"=some none) (z9:nsIn K mainGlobals "list"=some none) (z10:nsIn K mainGlobals "tuple"=some none) (z11:nsIn K mainGlobals "str"=some none) (z12:nsIn K mainGlobals "int"=some none) (z13:nsIn K mainGlobals "bool"=some none) (z14:nsIn K mainGlobals "sorted"=some none) (z15:nsIn K mainGlobals "zip"=some none) (z16:nsIn K mainGlobals "sum"=some none) (z17:nsIn K mainGlobals "any"=some none) (z18:nsIn K mainGlobals "all"=some none) (z19:nsIn K mainGlobals "set"=some none) (z20:nsIn K mainGlobals "dict"=some none):Bn mg:=
 ⟨mg_none_of X G z1,mg_none_of X G z2,mg_none_of X G z3,mg_none_of X G z4,mg_none_of X G z5,mg_none_of X G z6,mg_none_of X G z7,mg_none_of X G z8,mg_none_of X G z9,mg_none_of X G z10,mg_none_of X G z11,mg_none_of X G z12,mg_none_of X G z13,mg_none_of X G z14,mg_none_of X G z15,mg_none_of X G z16,mg_none_of X G z17,mg_none_of X G z18,mg_none_of X G z19,mg_none_of X G z20⟩
end PL
namespace PL
open PySem L2 Nh
abbrev HC:=List Sl→Option (List Sl×Bool)
end PL
namespace PL
open PySem PySem.Spec L2 Nh PyProof.Rows
def Hy(i:Int):Prop:= -1000000≤i∧i≤1000000
instance (i:Int):Decidable (Hy i):=inferInstanceAs (Decidable (_∧_))
theorem fits{i:Int}(h: -10000000≤i∧i≤10000000):Builtin.Range.rangeFitsLong i=true:=by
 unfold Builtin.Range.rangeFitsLong
 simp only[sy,decide_eq_true_eq]
 omega
end PL
namespace PL
open PySem L2 Nh
def nN:List PyData→Option (List Bool)
 |[]=>some []
 |.bool b::ds=>(nN ds).map (b:: ·)
 |_=>none
theorem sX{K:Frag}{H:Hp}:∀{vs:List V} {ds:List PyData} {bs:List Bool},RpA K H vs ds→nN ds=some bs→vs=bs.map V.bl
 |_,_,bs,.nil,e=>by cases e;rfl
 |_,_,bs,.cons (d:=d) h t,e=>by
  cases d <;> simp[nN]at e
  obtain⟨cs,e,rfl⟩:=e
  cases h
  rw[sX t e]
  rfl
section
variable {X:Cx} {e:Expr} {es:List Expr} {m1:Bool} {g:ln} {p pos:Pos}
theorem jU:∀{ns:List Int} {us:List Value},Vals (ns.map V.int) us→us.length=ns.length∧∀(i:Nat) (v:Value),us[i]? =some v→∃t,v=Value.int (ns.getD i 0) t
 |[],_,.nil=>⟨rfl,fun i v h=>by simp at h⟩
 |n::ns,_,.cons h t=>by
  obtain⟨tk,rfl⟩:=h
  obtain⟨h1,h2⟩:=jU t
  refine⟨by simp[h1],fun i v h=>?_⟩
  cases i with
  |zero=>simp at h;subst h;exact⟨tk,rfl⟩
  |succ i=>simpa using h2 i v (by simpa using h)
end
end PL
namespace PL
open PySem L2 Nh
def su(a b:Str):Bool:=decide (a.cps.toList≤b.cps.toList)
def ja(ss:List Str):List Str:=ss.mergeSort su
theorem jY(a b c:Str)(h:su a b=true)(k:su b c=true):su a c=true:=decide_eq_true (List.le_trans (of_decide_eq_true h) (of_decide_eq_true k))
theorem mn(a b:Str):(su a b||su b a)=true:=by
 rcases List.le_total a.cps.toList b.cps.toList with h |h
 ·simp[su,h]
 ·simp[su,h]
theorem oq{a b:Str}(h:su a b=true)(k:su b a=true):a=b:=by
 have e:=List.le_antisymm (of_decide_eq_true h) (of_decide_eq_true k)
 cases a;cases b
 simp only at e
 rw[Array.toList_inj.mp e]
theorem qe:∀(p:Str) (l:List Str),PyProof.Rows.risingS p l=true→(p::l).Pairwise (fun a b=>su a b=true)
 |p,[],_=>by simp
 |p,x::r,h=>by
  have h':(!PySem.Spec.ltCps x.cps.toList p.cps.toList&&PyProof.Rows.risingS x r)=true:=h
  rw[sy,PyProof.Rows.ltCps_eq]at h'
  have ih:=qe x r h'.2
  have hpx:su p x=true:=by
   have:=h'.1
   simp only[Bool.not_eq_true',decide_eq_false_iff_not]at this
   exact decide_eq_true this
  refine List.pairwise_cons.mpr ⟨fun y hy=>?_,ih⟩
  rcases Zal.mp hy with rfl |hy
  ·exact hpx
  ·exact jY p x y hpx ((List.pairwise_cons.mp ih).1 y hy)
theorem xn:∀l:List Str,PyProof.Rows.sortedS l=true→l.Pairwise (fun a b=>su a b=true)
 |[],_=>List.Pairwise.nil
 |x::r,h=>qe x r h
theorem ou{a b:List Str}(p:a.Perm b)(h:PyProof.Rows.sortedS a=true):a=ja b:=
 List.Perm.eq_of_pairwise (fun _ _ _ _ h k=>oq h k) (xn a h) (List.pairwise_mergeSort jY mn b) (p.trans (List.mergeSort_perm b su).symm)
theorem mq(ss:List Str):(ja ss).length=ss.length:=(List.mergeSort_perm ss su).length_eq
section
variable {X:Cx} {e:Expr} {m1:Bool} {f:bH} {p pos:Pos}
theorem ov:∀{ss:List Str} {us:List Value},Vals (ss.map V.str) us→PyProof.Rows.StrsAre us ss
 |[],_,.nil=>.nil
 |s::ss,_,.cons h t=>by obtain⟨tk,rfl⟩:=h;exact .cons _ _ (ov t)
theorem oA:∀{ss:List Str} {us:List Value},PyProof.Rows.StrsAre us ss→Vals (ss.map V.str) us
 |[],_,.nil=>.nil
 |_::_,_,.cons y t h=>.cons ⟨t,rfl⟩ (oA h)
theorem rn:CallR X (.builtin "sorted") (fun xs H Q=>∃(p:Addr) (ss:List Str),xs=[.ref p]∧SqL X.K H p (ss.map V.str)∧ss.length < 64∧∀l,H l=none→Q (.ref l) (upd H l (.lst ((ja ss).map V.str)))):=by
 intro pins s σ H xs us Q I r h
 obtain⟨p,ss,rfl,hq,h64,q⟩:=h
 cases r with
 |cons r rr=>
  cases rr
  cases r
  obtain⟨its,rv,pl,hz⟩:=I.list hq
  have hS:=ov rv
  have hl:its.length=ss.length:=by have:=rv.length;simpa using this.symm
  refine PyProof.Rows.sorted_strs pl.isList hS (by omega) fun out ss' a1 a2 a3=>?_
  have:=ou a2 a3
  subst this
  obtain⟨e,he⟩:=PyProof.Rows.sortedAll_at s.heap its out
  refine⟨.ref (s.heap.objs.size+1),_,I.laid (t':=s.toks) (fun b o=>PyProof.Rows.sortedAll_old) (Nat.le_succ _) (show ObjOk X.prog X.w _ _ _ (.lst ((ja ss).map V.str))from⟨?_,out.toList,e,oA a1,he⟩),rfl,q _ (I.hok.fresh (Nat.le_succ _))⟩
  rw[fH,mq]
  exact fW (by omega)
def kt:List PyData→Option (List Str)
 |[]=>some []
 |.str x::ds=>(kt ds).map (x:: ·)
 |_=>none
theorem nO{K:Frag}{H:Hp}:∀{vs:List V} {ds:List PyData} {bs:List Str},RpA K H vs ds→kt ds=some bs→vs=bs.map V.str
 |_,_,bs,.nil,e=>by cases e;rfl
 |_,_,bs,.cons (d:=d) h t,e=>by
  cases d <;> simp[kt]at e
  obtain⟨cs,e,rfl⟩:=e
  cases h
  rw[nO t e]
  rfl
theorem jC{K:Frag}{H:Hp}:∀ss:List Str,RpA K H (ss.map V.str) (ss.map PyData.str)
 |[]=>.nil
 |s::ss=>.cons (.str s) (jC ss)
def iU(g:bH):bH:=fun E=>(g E).bind fun a=>match look a.2 a.1 with
 |some (.list ds)=>(kt ds).bind fun ss=>if ss.length < 64 then some (.ow ((ja ss).map .str),a.2)else none
 |_=>none
theorem jZ (hg:Gl X "sorted") (hm:X.mg "sorted"=none) (ha:EX X e m1 f) (he:starEach [e] X.env=[(false,eval e X.env)]:=by rfl):EX X (.Call (.Name "sorted" p) [e] [] pos) m1 (iU f):=by
 refine bW (jm rn hg hm PyProof.Rows.boot_sorted (eI ha gy he) (by decide) (by decide) he rfl) fun σ H Q z=>?_
 obtain⟨B,E,xs,Xs,res,E',fr,cl,e,q⟩:=z
 obtain⟨⟨s,E1⟩,e1,e⟩:=Za.mp e
 refine⟨B,E,xs,Xs,s,E1,fr,cl,e1,fun v1 H1 ⟨F,A,fr1⟩=>?_⟩
 obtain⟨A',fr2⟩:=fr1.pop
 simp only at e
 split at e
 ·rename_i ds ld
  obtain⟨ss,es,e⟩:=Za.mp e
  split at e
  ·rename_i hc
   cases e
   have r:=(fr1.look0 ld).1
   cases r with
   |lst h1 h2=>
    have:=nO h2 es
    subst this
    exact⟨_,ss,rfl,h1,hc,fun l hl=>q _ _ ⟨F,_,fr2.newl (jC _) hl⟩⟩
  ·cases e
 ·cases e
end
end PL
namespace PL
open PySem L2 Nh
def AN(ks:List Str)(x:Str):List Str:=if x∈ks then ks else ks++[x]
def jD(ss:List Str):List Str:=ss.foldl AN []
def lA(x:Str):List Str:=x.cps.toList.map fun c=>⟨#[c]⟩
def jE(g:bH):bH:=fun E=>(g E).bind fun a=>match look a.2 a.1 with
 |some (.list ds)=>(kt ds).bind fun ss=>if ss.length < 4000∧(jD ss).length < 64 then some (.ow ((ja (jD ss)).map .str),a.2)else none
 |some (.str x)=>if (lA x).length < 4000∧(jD (lA x)).length < 64 then some (.ow ((ja (jD (lA x))).map .str),a.2)else none
 |_=>none
end PL
namespace NhSet
open PySem PyProof.Rows
structure SS (w:World) (b:Bool) (ks:List Str) (es:Array (Int×Value)) (t:SetTable):Prop where
 perm:(es.toList.map (fun e=>strOf e.2)).Perm ks
 elems:∀e∈es.toList,∃x tk,e=(hashStr w x,Value.str x tk)
 bound:es.size < scanBound
 fits:t.fits es.size=true
 led:t.led=b
 plain:es.size≠0→t.plain=false
abbrev dq(es:Array (Int×Value))(ep:Nat)(t:SetTable):Obj:={cls:=.type "set",dict:=none,data:=.set es ep t}
def StrSet(w:World)(h:Heap)(a:Addr)(b:Bool)(ks:List Str):Prop:=∃es ep t,h.get? a=some (dq es ep t)∧SS w b ks es t
theorem StrSet.at'{w:World}{h h':Heap}{a:Addr}{b:Bool}{ks:List Str}(S:StrSet w h a b ks)(e:∀o,h.get? a=some o→h'.get? a=some o):StrSet w h' a b ks:=
 let ⟨es,ep,t,ho,r⟩:=S;⟨es,ep,t,e _ ho,r⟩
theorem StrSet.obj{w:World}{h:Heap}{a:Addr}{b:Bool}{ks:List Str}(S:StrSet w h a b ks):∃o,h.get? a=some o:=let ⟨_,_,_,ho,_⟩:=S;⟨_,ho⟩
theorem StrSet.typeIs{w:World}{s:Shared}{a:Addr}{b:Bool}{ks:List Str}(S:StrSet w s.heap a b ks):s.TypeIs (.ref a) "set":=let ⟨_,_,_,ho,_⟩:=S;⟨_,ho,rfl⟩
theorem SS.elemsOf{prog:Program}{w:World}{b:Bool}{ks:List Str}{es:Array (Int×Value)}{t:SetTable}(S:SS w b ks es t):ElemsOf (strKind prog w) es.toList:=fun e he=>by
 obtain⟨x,tk,rfl⟩:=S.elems e he
 exact⟨⟨x,by simp[PySem.strKind,Value.isStrOf],rfl⟩,rfl⟩
theorem SS.len{w:World}{b:Bool}{ks:List Str}{es:Array (Int×Value)}{t:SetTable}(S:SS w b ks es t):es.size=ks.length:=by
 have:=S.perm.length_eq;simpa using this
theorem SS.mem{w:World}{b:Bool}{ks:List Str}{es:Array (Int×Value)}{t:SetTable}(S:SS w b ks es t)(x:Str):x∈ks↔∃e∈es.toList,Value.isStrOf x e.2=true:=by
 rw[←S.perm.mem_iff,Zap]
 constructor
 ·rintro⟨e,he,rfl⟩
  obtain⟨y,tk,rfl⟩:=S.elems e he
  exact⟨_,he,by simp[Value.isStrOf,strOf]⟩
 ·rintro⟨e,he,hx⟩
  obtain⟨y,tk,rfl⟩:=S.elems e he
  have:y=x:=by simpa[Value.isStrOf]using hx
  exact⟨_,he,by simp[strOf,this]⟩
theorem SetTable.orStandIn_led(t:SetTable)(n:Nat):(t.orStandIn n).led=t.led:=by
 unfold SetTable.orStandIn;split <;> rfl
theorem uU(t:SetTable)(es:Array (Int×Value))(h:Int)(x:Value):(layNew t es h x).2.1.led=t.led:=by
 unfold layNew
 split
 ·exact SetTable.orStandIn_led _ _
 ·rfl
theorem uW{mask finger moves:Nat}{led plain:Bool}{hashes:Array Int}{t':SetTable}{order:Array Nat}(h:SetTable.laid mask finger moves led plain hashes=some (t',order)):t'.led=led∧t'.plain=plain:=by
 unfold SetTable.laid at h
 cases hc:SetTable.layClean mask hashes with
 |none=>rw[hc]at h;simp at h
 |some ow=>rw[hc]at h;simp at h;rw[←h.1];exact⟨rfl,rfl⟩
theorem oD(t:SetTable)(es:Array (Int×Value))(wanted:Nat)(hp:t.plain=false):(relayAll t es wanted).2.1.led=t.led∧(relayAll t es wanted).2.1.plain=false:=by
 unfold relayAll
 split
 ·rename_i t' order hr
  dsimp only
  split
  ·have:=uW hr
   exact⟨this.1,this.2.trans hp⟩
  ·exact⟨rfl,rfl⟩
 ·exact⟨rfl,rfl⟩
section
variable {prog:Program} {w:World} {A:Around} {E:Value→Shared→Prop} {s:Shared}
theorem pI(es es':Array (Int×Value))(ep:Nat)(t t':SetTable):Obj.putSet es' t' (dq es ep t)=dq es' (ep+1) t':=rfl
theorem sY{h:Heap}{a:Addr}{es es':Array (Int×Value)}{ep:Nat}{t t':SetTable}(ho:h.get? a=some (dq es ep t)):(h.update a (Obj.putSet es' t')).get? a=some (dq es' (ep+1) t'):=
 Heap.get?_update_self (Obj.putSet es' t') ho (by rw[pI];rfl)
theorem wa{g:Bool→Sem Unit}(hg:∀(b:Bool) (s₁:Shared) (Q':Unit→Shared→Prop),Q' () s₁→wpAny (model prog w) A (g b) Q' E s₁)
  {a:Addr} {es:Array (Int×Value)} {ep:Nat} {t:SetTable} (ho:s.heap.get? a=some (dq es ep t))
  {es1:Array (Int×Value)} {t2:SetTable} {b:Bool} {ks:List Str} (S:SS w b ks es1 t2) (hp:t2.plain=false) {wasDummy:Bool} {R:Option Bool→Shared→Prop}
  (h:∀h',Heap.SameBut a s.heap h'→StrSet w h' a b ks→R (some true) {s with heap:=h'}):
  wpAny (model prog w) A (do
    storeSet a es1 t2
    if (!wasDummy&&t2.tooFull)=true then do
      g (relayAll t2 es1 (SetTable.grown es1.size)).2.2
      storeSet a (relayAll t2 es1 (SetTable.grown es1.size)).1 (relayAll t2 es1 (SetTable.grown es1.size)).2.1
      pure (some true)
     else pure (some true)) R E s:=by
 refine wpAny_bind (wpAny_storeSet_of ho rfl ?_ (fits_of_scanBound S.bound))
 have ho1:=sY (es':=es1) (t':=t2) ho
 have hsb1:=Heap.SameBut.update s.heap a (Obj.putSet es1 t2)
 split
 ·have hpm:=relayAll_perm t2 es1 (SetTable.grown es1.size)
  have hfr:=relayAll_fits t2 es1 (SetTable.grown es1.size)
  have hmk:=oD t2 es1 (SetTable.grown es1.size) hp
  generalize hRl:relayAll t2 es1 (SetTable.grown es1.size)=Rl at hpm hfr hmk ⊢
  obtain⟨es2,t3,gave2⟩:=Rl
  dsimp only at hpm hfr hmk ⊢
  have hsz:es2.size=es1.size:=by rw[←uz,hpm.length_eq,uz]
  have hb2:es2.size < scanBound:=by rw[hsz];exact S.bound
  have S2:SS w b ks es2 t3:=⟨(hpm.map _).trans S.perm,fun e he=>S.elems e (hpm.mem_iff.mp he),hb2,hfr,hmk.1.trans S.led,fun _=>hmk.2⟩
  refine wpAny_bind (hg _ _ _ ?_)
  refine wpAny_bind (wpAny_storeSet_of ho1 rfl ?_ (fits_of_scanBound hb2))
  exact wpAny_pure (h _ (hsb1.trans (Heap.SameBut.update _ a _)) ⟨es2,_,t3,sY ho1,S2⟩)
 ·exact wpAny_pure (h _ hsb1 ⟨es1,_,t2,ho1,S⟩)
def nu(ks:List Str)(x:Str):List Str:=if x∈ks then ks else ks++[x]
theorem mr{a:Addr}{b:Bool}{ks:List Str}{x:Str}{tk:Tok}{Q:Bool→Shared→Prop}(hS:StrSet w s.heap a b ks)(hroom:ks.length+1 < scanBound)
  (h:∀(r:Bool) h',Heap.SameBut a s.heap h'→StrSet w h' a b (nu ks x)→Q r {s with heap:=h'}):
  wpAny (model prog w) A (setAddHashed a (.str x tk) (hashStr w x)) Q E s:=by
 obtain⟨es,ep,t,ho,S⟩:=hS
 have hb1:es.size+1 < scanBound:=by rw[S.len];exact hroom
 have hel:=S.elemsOf (prog:=prog)
 have hkey:(strKind prog w).is x (.str x tk)=true:=by simp[PySem.strKind,Value.isStrOf]
 unfold setAddHashed setAddHashedIn
 refine wpAny_holding (wpAny_bind (wpAny_setState_of ho rfl S.fits ?_))
 dsimp only
 rw[byScan_of (knd:=strKind prog w) (x:=.str x tk) rfl S.bound hel]
 simp only[↓reduceIte]
 unfold setAddByScan
 refine wpAny_bind ?_
 refine wpAny_bind (wpAny_rule ?_)
 refine wpAny_bind (wpAny_setScan_of (knd:=strKind prog w) hkey ho rfl S.fits hel ?_)
 cases hr:List.findIdx? (fun e=>(strKind prog w).is x e.2) es.toList with
 |some j=>
  dsimp only
  obtain⟨hj,hpj,_⟩:=List.findIdx?_eq_some_iff_getElem.mp hr
  have hk:x∈ks:=(S.mem x).mpr ⟨es.toList[j],List.getElem_mem hj,hpj⟩
  refine wpAny_pure (wpAny_pure ?_)
  have e:s={s with heap:=s.heap}:=by cases s;rfl
  rw[e]
  exact h _ s.heap (Heap.SameBut.refl a s.heap) (by rw[nu,if_pos hk];exact⟨es,ep,t,ho,S⟩)
 |none=>
  dsimp only
  have hk:x∉ks:=fun hk=>by
   obtain⟨e,he,hp⟩:=(S.mem x).mp hk
   have:=List.findIdx?_eq_none_iff.mp hr e he
   rw[show(strKind prog w).is x e.2=true from hp]at this;exact Bool.noConfusion this
  have hgw:∀(b:Bool) {s₁:Shared} {Q':Unit→Shared→Prop},Q' () s₁→wpAny (model prog w) A (match b with |true=>rule "set.scan.the-table-gave-way" |false=>pure ()) Q' E s₁:=
   fun b s₁ Q' hq=>by cases b <;> first |exact wpAny_pure hq |exact wpAny_rule hq
  have hperm:=layNew_perm t es (hashStr w x) (.str x tk)
  have hfits:=layNew_fits t es (hashStr w x) (.str x tk)
  have hled:=uU t es (hashStr w x) (.str x tk)
  generalize hL:layNew t es (hashStr w x) (.str x tk)=L at hperm hfits hled ⊢
  obtain⟨es1,t1,wasDummy,gave⟩:=L
  dsimp only at hperm hfits hled ⊢
  rw[Array.toList_push]at hperm
  have hb1':es1.size < scanBound:=by rw[←uz,hperm.length_eq,vH,uz];simpa using hb1
  have hpm:(es1.toList.map (fun e=>strOf e.2)).Perm (ks++[x]):=(hperm.map _).trans (by rw[List.map_append];exact S.perm.append_right _)
  have hel1:∀e∈es1.toList,∃x tk,e=(hashStr w x,Value.str x tk):=fun e he=>by
   rcases Zan.mp (hperm.mem_iff.mp he)with z |z
   ·exact S.elems e z
   ·exact⟨x,tk,Zab.mp z⟩
  refine wpAny_bind (hgw _ ?_)
  split
  ·refine wpAny_bind ?_
   rw[hashByValue_scannable 8 (x:=.str x tk) rfl]
   refine wpAny_pure ?_
   simp only[plainKind,Bool.false_eq_true,↓reduceIte]
   refine wa ?_ ho (t2:={t1 with plain:=false}) (ks:=nu ks x) (b:=b) ⟨by rw[nu,if_neg hk];exact hpm,hel1,hb1',SetTable.fits_plain_off hfits,hled.trans S.led,fun _=>rfl⟩ rfl ?_
   ·intro b s₁ Q' hq;cases b <;> first |exact wpAny_pure hq |exact wpAny_rule hq
   ·intro h' hsb hS';dsimp only;exact wpAny_pure (h _ h' hsb hS')
  ·rename_i hpl
   refine wpAny_bind (wpAny_pure ?_)
   simp only[↓reduceIte]
   have hpl':t1.plain=false:=by simpa using hpl
   refine wa ?_ ho (ks:=nu ks x) (b:=b) ⟨by rw[nu,if_neg hk];exact hpm,hel1,hb1',hfits,hled.trans S.led,fun _=>hpl'⟩ hpl' ?_
   ·intro b s₁ Q' hq;cases b <;> first |exact wpAny_pure hq |exact wpAny_rule hq
   ·intro h' hsb hS';dsimp only;exact wpAny_pure (h _ h' hsb hS')
end
def kM(val:Nat→Str)(i:Nat):List Str:=((List.range i).map val).foldl nu []
theorem qf(val:Nat→Str)(i:Nat):kM val (i+1)=nu (kM val i) (val i):=by
 unfold kM;rw[List.range_succ,List.map_append,List.foldl_append];rfl
theorem ze(ks:List Str)(x:Str):(nu ks x).length≤ks.length+1:=by
 unfold nu;split
 ·omega
 ·simp
theorem sZ(val:Nat→Str):∀i,(kM val i).length≤i
 | 0=>fQ _
 |i+1=>by rw[qf];have:=sZ val i;have:=ze (kM val i) (val i);omega
section
variable {prog:Program} {w:World} {A:Around} {R:Result→Shared→Prop} {I:Addr} {fp wr:List Addr} {G:Array GenState→Array GenState→Prop} {n:Nat} {P:Nat→Value→Prop} {St:Nat→Shared→Prop}
theorem mY(W:WalksS prog w A.in1 I fp wr G n P St)(S:Addr)(hSf:S∉fp)(b:Bool)
  (val:Nat→Str) (hval:∀i v,P i v→∃t,v=.str (val i) t) (hb:n+1 < scanBound):
  ∀(k i:Nat) (s:Shared),n - i=k→i≤n→St i s→StrSet w s.heap S b (kM val i)→
   (∀s',Moved (S::wr) G s s'→StrSet w s'.heap S b (kM val n)→R (.ok (.ret .none)) s')→
   codeAny (model prog w) A (.builtin "set.update.loop" ⟨[.ref S,.ref I],[]⟩) R s:=by
 have hSw:S∉wr:=fun h=>hSf (W.sub _ h)
 have hsub:∀b∈wr,b∈S::wr:=fun b hb=>il _ hb
 intro k
 induction k with
 |zero=>
  intro i s hk hi hst hS hR
  have hin:i=n:=by omega
  subst hin
  refine codeAny_builtin PyProof.Rows.F.entry_set_update_loop ?_
  rw[Around.under_plainId PyProof.Rows.F.plain_set_update_loop _]
  show wpAny _ A.in1 (pyNext (.ref I) >>= _) _ _ s
  refine wpAny_bind (W.done s _ _ hst fun s' hm=>?_)
  show wpAny _ A.in1 (ret Value.none) _ _ s'
  exact wpAny_pure (hR s' (hm.mono hsub) (hS.at' fun o e=>hm.heap S o hSw e))
 |succ k ih=>
  intro i s hk hi hst hS hR
  have hlt:i < n:=by omega
  refine codeAny_builtin PyProof.Rows.F.entry_set_update_loop ?_
  rw[Around.under_plainId PyProof.Rows.F.plain_set_update_loop _]
  show wpAny _ A.in1 (pyNext (.ref I) >>= _) _ _ s
  refine wpAny_bind (W.item i s _ _ hlt hst fun v s' hP hst' hm=>?_)
  obtain⟨t,rfl⟩:=hval i v hP
  have hS':StrSet w s'.heap S b (kM val i):=hS.at' fun o e=>hm.heap S o hSw e
  show wpAny _ A.in1 (holding [Value.str (val i) t] (setAdd S (.str (val i) t)) >>= _) _ _ s'
  refine wpAny_bind (wpAny_holding ?_)
  unfold setAdd
  refine wpAny_holding ?_
  refine wpAny_bind (wpAny_pyHash_str ?_)
  have hroom:(kM val i).length+1 < scanBound:=by have:=sZ val i;omega
  refine mr (s:={s' with toks:=s'.toks+1}) hS' hroom fun r h' hsb hS2=>?_
  refine wpAny_pure ⟨plainId_quiet PyProof.Rows.F.plain_set_update_loop _,ih (i+1) _ (by omega) hlt (W.frame _ s' _ _ hst' (Nat.le_succ _) fun b hb o e=>?_) (by rw[qf];exact hS2) fun s'' hm'' hS''=>?_⟩
  ·rw[hsb.2 b (fun h:b=S=>hSf (by rw[←h];exact hb))];exact e
  ·refine hR s'' (Moved.trans W.gtrans ((hm.mono hsub).then_heap (Nat.le_succ _) fun b o hb e=>?_) hm'') hS''
   rw[hsb.2 b (fun h:b=S=>hb (by rw[h];exact io))];exact e
end
theorem lB(w:World)(led:Bool):SS w led [] #[] (.fresh 0 0 led):=⟨by simp,fun e he=>by simp at he,by decide,by rfl,rfl,fun h=>absurd rfl h⟩
def ku(w:World):Bool:= !w.params.followText "set-order"
section
variable {prog:Program} {w:World} {A:Around} {E:Value→Shared→Prop} {s:Shared}
theorem s_(a:Value){Q₁:Value→Shared→Prop}
  (h:Q₁ (.ref s.heap.objs.size) {s with heap:=s.heap.push (dq #[] 0 (.fresh 0 0 (ku w)))}):
  codeAny (model prog w) A (.call (.builtin "set.__new__") ⟨[.type "set",a],[]⟩) (wants Q₁ E) s:=by
 refine codeAny_of_tree ?_
 show wpAny _ A.in1 (do checkBuiltinCall "set.__new__" ⟨[.type "set",a],[]⟩;again (.builtin "set.__new__" ⟨[.type "set",a],[]⟩)) _ _ s
 refine wpAny_bind (wpAny_of_eq (PySem.F.newCall_set_1 a) (wpAny_pure ⟨plainId_quiet PySem.F.plain_set_new _,codeAny_builtin PySem.F.entry_set_new ?_⟩))
 rw[Around.under_plainId PySem.F.plain_set_new _]
 unfold Builtin.«set.__new__» Builtin.Frozenset.newClass
 have hsub:=sub_set_self
 obtain⟨hp,g,d,tk,os⟩:=s
 dsimp only
 wp_walk
 refine wpAny_askSetting (wpAny_pure ?_)
 dsimp only
 simp only[newObj]
 refine wpAny_bind (wpAny_alloc (wpAny_pure ?_))
 exact wpAny_pure h
end
end NhSet
namespace NhSet
open PySem PyProof.Rows
namespace F
theorem td:isSubtype (.type "str") (.type "set")=pure false:=by rw[isSubtype_type];kernel_rfl
theorem lC:isSubtype (.type "str") (.type "frozenset")=pure false:=by rw[isSubtype_type];kernel_rfl
end F
section
variable {prog:Program} {w:World} {A:Around} {E:Value→Shared→Prop} {s:Shared}
theorem wb:∀{vs:List Value} {ns:List Str},StrsAre vs ns→∀(i:Nat) (v:Value),vs[i]? =some v→∃t,v=.str (ns.getD i ⟨#[]⟩) t
 |_,_,.nil,i,v,h=>by simp at h
 |_,_,.cons n t hr,0,v,h=>by simp at h;exact⟨t,by rw[←h];rfl⟩
 |_,_,.cons n t hr,i+1,v,h=>by
  simp only[Z3]at h
  obtain⟨t',e⟩:=wb hr i v h
  exact⟨t',by rw[e];rfl⟩
set_option maxHeartbeats 4000000 in
theorem xo{l:Addr}{items:Array Value}{ns:List Str}{Q:Value→Shared→Prop}
  (hh:A.handled=none) (hl:s.heap.IsList l items) (hi:StrsAre items.toList ns) (hb:items.size+1 < scanBound)
  (h:∀(h':Heap) (tk:Nat),StrSet w h' s.heap.objs.size (ku w) (kM (fun i=>ns.getD i ⟨#[]⟩) items.size)→
   (∀b o,b < s.heap.objs.size→s.heap.get? b=some o→h'.get? b=some o)→Q (.ref s.heap.objs.size) {s with heap:=h',toks:=tk}):
  wpAny (model prog w) A (call (.type "set") [.ref l]) Q E s:=by
 obtain⟨c,tl,hmro⟩:=PySem.F.called_set.mro
 have hmade:=PySem.F.called_set.made
 have hsub:=PySem.F.called_set.sub
 refine wpAny_call (codeAny_of_tree ?_)
 show wpAny _ _ (callAny (.type "set") _) _ _ _
 refine wpAny_pure ⟨Code.quiet_builtin _ (by decide+kernel),codeAny_builtin PySem.F.entry_type_call ?_⟩
 rw[Around.under_plain (weight_type_call_type "set" [.ref l] []) rfl]
 have h1:=PySem.F.called_set.notType
 have h2:=PySem.F.called_set.canCreate
 have hct:=PySem.F.typeCall_set_1 (.ref l)
 repeat (any_goals (first |assumption |wp_step))
 generalize hled:ku w=led at h
 refine codeAny_mono (s_ (w:=w) (.ref l) (E:=E) (Q₁:=fun obj s₁=>obj=.ref s.heap.objs.size∧s₁={s with heap:=s.heap.push {cls:=.type "set",dict:=none,data:=.set #[] 0 (.fresh 0 0 led)}}) (by rw[hled];exact⟨rfl,rfl⟩)) fun r s₁ hr=>?_
 cases r with
 |error e=>exact hr
 |ok fl=>
  cases fl with
  |ret obj=>
   obtain⟨rfl,rfl⟩:=hr
   have hS:(s.heap.push {cls:=.type "set",dict:=none,data:=.set #[] 0 (.fresh 0 0 led)}).get? s.heap.objs.size=some {cls:=.type "set",dict:=none,data:=.set #[] 0 (.fresh 0 0 led)}:=lh _ rfl
   have hT:Shared.TypeIs {s with heap:=s.heap.push {cls:=.type "set",dict:=none,data:=.set #[] 0 (.fresh 0 0 led)}} (.ref s.heap.objs.size) "set":=⟨_,hS,rfl⟩
   have hli:=PySem.F.called_set.init.lookup
   have hbi:=PySem.F.called_set.init.bind (.ref s.heap.objs.size)
   repeat (any_goals (first |assumption |wp_step))
   refine codeAny_mono (codeAny_call_builtin (R:=wants (fun r s₂=>r=.none∧∃h' tk,s₂={s with heap:=h',toks:=tk}∧
     StrSet w h' s.heap.objs.size led (kM (fun i=>ns.getD i ⟨#[]⟩) items.size)∧
     (∀b o,b < s.heap.objs.size→s.heap.get? b=some o→h'.get? b=some o)) E) PySem.F.called_set.init.plain PySem.F.entry_set_init (check_set_init_1 hT ?_)) fun r₂ s₂ hr₂=>?_
   ·obtain⟨ol,hol,hcl,nl,hdl⟩:=hl
    obtain⟨ocls,odict,odata,oslots⟩:=ol
    simp only at hcl hdl
    subst hcl;subst hdl
    have hol':(s.heap.push {cls:=.type "set",dict:=none,data:=.set #[] 0 (.fresh 0 0 led)}).get? l=some {cls:=.type "list",dict:=odict,data:=.seq items nl,slots:=oslots}:=gw _ hol
    have hsls:=PySem.F.sub_list_set
    have hslf:=PySem.F.sub_list_frozenset
    have hne:(Value.type "list" == Value.type "dict")=false:=by decide
    have hl1:(s.heap.push {cls:=.type "set",dict:=none,data:=.set #[] 0 (.fresh 0 0 led)}).IsList l items:=⟨_,hol',rfl,nl,rfl⟩
    unfold Builtin.«set.__init__» noKeywords Builtin.Frozenset.updateFrom
    generalize hPI:pyIter=PI
    wp_walk
    subst hPI
    refine wpAny_pyIter_list hl1 ?_
    refine wpAny_bind (wpAny_runValue ?_)
    have hlS:l < s.heap.objs.size:=gE hol
    have hh3:A.in1.in1.in1.handled=none:=by simp[hh]
    have hneI:l≠(s.heap.push {cls:=.type "set",dict:=none,data:=.set #[] 0 (.fresh 0 0 led)}).objs.size:=by
     rw[Heap.size_push];exact gI (uB hlS)
    have hSf:s.heap.objs.size∉[(s.heap.push {cls:=.type "set",dict:=none,data:=.set #[] 0 (.fresh 0 0 led)}).objs.size,l]:=by
     rw[Heap.size_push];simp only[Zal,Zab,List.not_mem_nil,or_false,not_or]
     exact⟨gI (Nat.lt_succ_self _),Nat.ne_of_gt hlS⟩
    have hval:∀(i:Nat) (v:Value),items[i]? =some v→∃t,v=.str ((fun i=>ns.getD i ⟨#[]⟩) i) t:=fun i v hv=>
     wb hi i v (by rw[Array.getElem?_toList];exact hv)
    refine mY ((Walks.list hh3 _ l hneI items).toS) s.heap.objs.size
     hSf led (fun i=>ns.getD i ⟨#[]⟩) hval hb (items.size - 0) 0 _ (by omega) (Nat.zero_le _)
     ⟨⟨_,lh _ rfl,rfl,rfl⟩,(hl1.push _)⟩ ?hS0 ?hR
    case hS0=>
     have hget:((s.heap.push {cls:=.type "set",dict:=none,data:=.set #[] 0 (.fresh 0 0 led)}).push {cls:=.type "list_iterator",data:=.fields #[.ref l,.int 0 0]}).get? s.heap.objs.size
       =some {cls:=.type "set",dict:=none,data:=.set #[] 0 (.fresh 0 0 led)}:=gw _ hS
     exact⟨_,_,_,hget,lB w led⟩
    case hR=>
     intro s' hm hS'
     obtain⟨h',g',d',tk',os'⟩:=s'
     have eg:g'=s.gens:=hm.gens
     have ed:d'=s.drawn:=hm.drawn
     have eo:os'=s.os:=hm.os
     subst eg;subst ed;subst eo
     show wpAny _ _ _ _ _ _
     refine wpAny_pure ?_
     show wpAny _ _ (ret Value.none) _ _ _
     refine wpAny_pure ⟨rfl,h',tk',rfl,hS',fun b o hb e=>?_⟩
     have hb1:b≠s.heap.objs.size:=gI hb
     have hb2:b≠(s.heap.push {cls:=.type "set",dict:=none,data:=.set #[] 0 (.fresh 0 0 led)}).objs.size:=by
      rw[Heap.size_push];exact gI (uB hb)
     exact hm.heap b o (by simp only[Zal,Zab,List.not_mem_nil,or_false,not_or];exact⟨hb1,hb2⟩) (gw _ (gw _ e))
   ·cases r₂ with
    |error e=>exact hr₂
    |ok fl₂=>
     cases fl₂ with
     |ret r=>
      obtain⟨rfl,h',tk,rfl,hS',hk'⟩:=hr₂
      repeat (any_goals (first |assumption |wp_step))
      exact h _ _ hS' hk'
     |_=>exact hr₂.elim
  |_=>exact hr.elim
def iV(x:Str)(i:Nat):Str:=⟨#[x.cps.getD i 0]⟩
set_option maxHeartbeats 4000000 in
theorem zf{x:Str}{t:Tok}{Q:Value→Shared→Prop}
  (hh:A.handled=none) (hb:x.cps.size+1 < scanBound)
  (h:∀(h':Heap) (tk:Nat),StrSet w h' s.heap.objs.size (ku w) (kM (iV x) x.cps.size)→
   (∀b o,b < s.heap.objs.size→s.heap.get? b=some o→h'.get? b=some o)→Q (.ref s.heap.objs.size) {s with heap:=h',toks:=tk}):
  wpAny (model prog w) A (call (.type "set") [.str x t]) Q E s:=by
 obtain⟨c,tl,hmro⟩:=PySem.F.called_set.mro
 have hmade:=PySem.F.called_set.made
 have hsub:=PySem.F.called_set.sub
 refine wpAny_call (codeAny_of_tree ?_)
 show wpAny _ _ (callAny (.type "set") _) _ _ _
 refine wpAny_pure ⟨Code.quiet_builtin _ (by decide+kernel),codeAny_builtin PySem.F.entry_type_call ?_⟩
 rw[Around.under_plain (weight_type_call_type "set" [.str x t] []) rfl]
 have h1:=PySem.F.called_set.notType
 have h2:=PySem.F.called_set.canCreate
 have hct:=PySem.F.typeCall_set_1 (.str x t)
 repeat (any_goals (first |assumption |wp_step))
 generalize hled:ku w=led at h
 refine codeAny_mono (s_ (w:=w) (.str x t) (E:=E) (Q₁:=fun obj s₁=>obj=.ref s.heap.objs.size∧s₁={s with heap:=s.heap.push {cls:=.type "set",dict:=none,data:=.set #[] 0 (.fresh 0 0 led)}}) (by rw[hled];exact⟨rfl,rfl⟩)) fun r s₁ hr=>?_
 cases r with
 |error e=>exact hr
 |ok fl=>
  cases fl with
  |ret obj=>
   obtain⟨rfl,rfl⟩:=hr
   have hS:(s.heap.push {cls:=.type "set",dict:=none,data:=.set #[] 0 (.fresh 0 0 led)}).get? s.heap.objs.size=some {cls:=.type "set",dict:=none,data:=.set #[] 0 (.fresh 0 0 led)}:=lh _ rfl
   have hT:Shared.TypeIs {s with heap:=s.heap.push {cls:=.type "set",dict:=none,data:=.set #[] 0 (.fresh 0 0 led)}} (.ref s.heap.objs.size) "set":=⟨_,hS,rfl⟩
   have hli:=PySem.F.called_set.init.lookup
   have hbi:=PySem.F.called_set.init.bind (.ref s.heap.objs.size)
   repeat (any_goals (first |assumption |wp_step))
   refine codeAny_mono (codeAny_call_builtin (R:=wants (fun r s₂=>r=.none∧∃h' tk,s₂={s with heap:=h',toks:=tk}∧
     StrSet w h' s.heap.objs.size led (kM (iV x) x.cps.size)∧
     (∀b o,b < s.heap.objs.size→s.heap.get? b=some o→h'.get? b=some o)) E) PySem.F.called_set.init.plain PySem.F.entry_set_init (check_set_init_1 hT ?_)) fun r₂ s₂ hr₂=>?_
   ·have hsls:=F.td
    have hslf:=F.lC
    have hne:(Value.type "str" == Value.type "dict")=false:=by decide
    have hTx:Shared.TypeIs {s with heap:=s.heap.push {cls:=.type "set",dict:=none,data:=.set #[] 0 (.fresh 0 0 led)}} (.str x t) "str":=rfl
    unfold Builtin.«set.__init__» noKeywords Builtin.Frozenset.updateFrom
    generalize hPI:pyIter=PI
    wp_walk
    subst hPI
    refine wpAny_pyIter_str fun o St W hst=>?_
    refine wpAny_bind (wpAny_runValue ?_)
    have hh3:A.in1.in1.in1.handled=none:=by simp[hh]
    have hSf:s.heap.objs.size∉[(s.heap.push {cls:=.type "set",dict:=none,data:=.set #[] 0 (.fresh 0 0 led)}).objs.size]:=by
     rw[Heap.size_push];simp only[Zal,Zab,List.not_mem_nil,or_false,not_or]
     exact gI (Nat.lt_succ_self _)
    have hval:∀(i:Nat) (v:Value),SignAt x i v→∃t,v=.str (iV x i) t:=fun i v ⟨c,u,hc,hv⟩=>⟨u,by rw[hv];simp[iV,Array.getD_eq_getD_getElem?,hc]⟩
    refine mY ((W _ hh3).toS) s.heap.objs.size
     hSf led (iV x) hval hb (x.cps.size - 0) 0 _ (by omega) (Nat.zero_le _) hst ?hS0 ?hR
    case hS0=>exact⟨_,_,_,gw _ hS,lB w led⟩
    case hR=>
     intro s' hm hS'
     obtain⟨h',g',d',tk',os'⟩:=s'
     have eg:g'=s.gens:=hm.gens
     have ed:d'=s.drawn:=hm.drawn
     have eo:os'=s.os:=hm.os
     subst eg;subst ed;subst eo
     show wpAny _ _ _ _ _ _
     refine wpAny_pure ?_
     show wpAny _ _ (ret Value.none) _ _ _
     refine wpAny_pure ⟨rfl,h',tk',rfl,hS',fun b o hb e=>?_⟩
     have hb1:b≠s.heap.objs.size:=gI hb
     have hb2:b≠(s.heap.push {cls:=.type "set",dict:=none,data:=.set #[] 0 (.fresh 0 0 led)}).objs.size:=by
      rw[Heap.size_push];exact gI (uB hb)
     exact hm.heap b o (by simp only[Zal,Zab,List.not_mem_nil,or_false,not_or];exact⟨hb1,hb2⟩) (gw _ (gw _ e))
   ·cases r₂ with
    |error e=>exact hr₂
    |ok fl₂=>
     cases fl₂ with
     |ret r=>
      obtain⟨rfl,h',tk,rfl,hS',hk'⟩:=hr₂
      repeat (any_goals (first |assumption |wp_step))
      exact h _ _ hS' hk'
     |_=>exact hr₂.elim
  |_=>exact hr.elim
end
end NhSet
namespace NhSet
open PySem PyProof.Rows
theorem kN{α:Type}:∀{l:List α} {i:Nat} (h:i < l.length),(l[i]::l.eraseIdx i).Perm l
 |x::xs,0,h=>List.Perm.refl _
 |x::xs,i+1,h=>by
  have:=kN (l:=xs) (i:=i) (by simpa using h)
  simp only[List.getElem_cons_succ,List.eraseIdx_cons_succ]
  exact(List.Perm.swap x _ _).trans (this.cons x)
theorem qg{α:Type}(next:Nat→Nat):∀(fuel k:Nat) (left:List α) (out:Array α),left.length=fuel→(pickOrder.go next fuel k left out).toList.Perm (out.toList++left)
 | 0,k,left,out,h=>by
  have:left=[]:=List.length_eq_zero_iff.mp h
  subst this;simp[pickOrder.go]
 |fuel+1,k,left,out,h=>by
  unfold pickOrder.go
  have hlt:next k % left.length < left.length:=Nat.mod_lt _ (by omega)
  rw[uv hlt]
  dsimp only
  refine(qg next fuel (k+1) _ _ (by rw[List.length_eraseIdx_of_lt hlt];omega)).trans ?_
  rw[Array.toList_push,pA]
  exact(kN hlt).append_left _
theorem oE{α:Type}(next:Nat→Nat)(xs:Array α):(pickOrder next xs).toList.Perm xs.toList:=by
 have:=qg next xs.size 0 xs.toList #[] (by simp)
 simpa[pickOrder]using this
section
variable {M:Model} {A:Around} {E:Value→Shared→Prop}
theorem rq{src:Source}{n:Nat}{s:Shared}{Q:Nat→Shared→Prop}(hn:n≠0)(h:∀i d,i < n→Q i {s with drawn:=d}):wpAny M A (choose src n) Q E s:=fun Γ p hΓ=>by
 show Sem.wp M Γ (.choose src n .pure) _ _ p s
 rw[Sem.wp_choose]
 exact⟨hn,by rw[Sem.wp_pure];exact h _ _ (Nat.mod_lt _ (Nat.pos_of_ne_zero hn))⟩
theorem jb{α:Type}:∀(n:Nat) (xs:List α) (s:Shared) {Q:List α→Shared→Prop},xs.length=n→(∀ys d,ys.Perm xs→Q ys {s with drawn:=d})→wpAny M A (drawOrder n xs) Q E s
 | 0,xs,s,Q,hl,h=>by
  have:xs=[]:=List.length_eq_zero_iff.mp hl
  subst this
  exact wpAny_pure (h [] s.drawn (List.Perm.refl _))
 |n+1,[],s,Q,hl,h=>by simp at hl
 |n+1,x::xs,s,Q,hl,h=>by
  show wpAny M A (choose .order (x::xs).length >>= _) Q E s
  refine wpAny_bind (rq (by simp) fun i d hi=>?_)
  rw[uv hi]
  dsimp only
  refine wpAny_bind (jb n _ _ (by rw[List.length_eraseIdx_of_lt hi];simpa using hl) fun ys d' hp=>?_)
  exact wpAny_pure (h _ d' ((hp.cons _).trans (kN hi)))
end
namespace F
theorem oF:entryFor table "set.__iter__"=some Builtin.«frozenset.__iter__»:=
 entryFor_alias (id':="frozenset.__iter__") (by kernel_rfl) rfl (by decide+kernel) (by kernel_rfl)
theorem slot_next:Slot "set_iterator" "__next__" "set_iterator.__next__":=
 .of (owner:="set_iterator") (n:="__next__") (by rw[typeLookup_type,builtinLookup_eq_fast];kernel_rfl) (by decide+kernel) (by decide+kernel) (by decide+kernel)
  (by first |exact .inl (by decide+kernel) |exact .inr (by decide+kernel)) (by rw[isSubtype_type];kernel_rfl)
theorem uX:entryFor table "set_iterator.__next__"=some Builtin.«set_iterator.__next__»:=entryFor_of_fast (by kernel_rfl)
theorem xp(a:Value):argsOk "set_iterator.__next__" ⟨[a],[]⟩:=by unfold argsOk;kernel_rfl
theorem qh:Slot "set_iterator" "__iter__" "set_iterator.__iter__":=
 .of (owner:="set_iterator") (n:="__iter__") (by rw[typeLookup_type,builtinLookup_eq_fast];kernel_rfl) (by decide+kernel) (by decide+kernel) (by decide+kernel)
  (by first |exact .inl (by decide+kernel) |exact .inr (by decide+kernel)) (by rw[isSubtype_type];kernel_rfl)
theorem uY:entryFor table "set_iterator.__iter__"=some Builtin.«dict_keyiterator.__iter__»:=
 entryFor_alias (id':="dict_keyiterator.__iter__") (by kernel_rfl) rfl (by decide+kernel) (by kernel_rfl)
theorem xq(a:Value):argsOk "set_iterator.__iter__" ⟨[a],[]⟩:=by unfold argsOk;kernel_rfl
end F
abbrev ti(first:Value)(i:Nat)(a:Addr)(n ep:Nat):Obj:={cls:=.type "set_iterator",data:=.fields #[first,.int i 0,.ref a,.int n 0,.int ep 0]}
section
variable {prog:Program} {w:World} {A:Around} {E:Value→Shared→Prop} {s:Shared}
theorem rz{I:Addr}{first:Value}{i:Nat}{a:Addr}{n ep:Nat}{Q:Value→Shared→Prop}(ho:s.heap.get? I=some (ti first i a n ep))(h:Q (.ref I) s):wpAny (model prog w) A (pyIter (.ref I)) Q E s:=by
 have hT:s.TypeIs (.ref I) "set_iterator":=⟨_,ho,rfl⟩
 refine wpAny_pyIter_slot hT F.qh (wpAny_call_entry F.qh hT F.uY ?_ (F.xq _))
 show wpAny _ _ (ret (.ref I)) _ _ s
 exact wpAny_pure ⟨_,rfl,"set_iterator",_,hT,F.slot_next.lookup,h⟩
theorem tj{a:Addr}{es:Array (Int×Value)}{ep:Nat}{t:SetTable}{Q:Bool→Shared→Prop}(ho:s.heap.get? a=some (dq es ep t))(hf:t.fits es.size=true)
  (h:Q (!(w.params.followText "set-order")&&(!t.plain&&decide (es.size > 1))) s):wpAny (model prog w) A (setDrawn a) Q E s:=by
 unfold setDrawn setsByText
 refine wpAny_bind (wpAny_setState_of ho rfl hf ?_)
 dsimp only
 refine wpAny_bind (wpAny_bind (wpAny_askSetting (wpAny_pure ?_)))
 exact wpAny_pure h
theorem rA{I:Addr}{Q:Option Value→Shared→Prop}(hh:A.handled=none){o:Obj}(hQ:∀h',Heap.ExtBut I s.heap h'→Q none {s with heap:=h'}){h1:Heap}(k:Heap.ExtBut I s.heap h1):
  wpAny (model prog w) A.in1 (newExc (.type "StopIteration") [] >>= fun e=>raiseNew e) (fun(fin:Fin) s'=>∃r,fin=.done (.ret r)∧wpAny (model prog w) A (pure (some r)) Q E s')
   (fun e s'=>wpAny (model prog w) A (isInstance e (.type "StopIteration") >>= fun b=>if b=true then pure none else throw e) Q E s') {s with heap:=h1}:=by
 refine wpAny_bind ?_
 simp only[newExc,newTuple]
 refine wpAny_bind (wpAny_newObj_type ?_ (by size_fits))
 refine wpAny_bind (m:=firstArgMember _ _) (wpAny_of_eq (a:=Value.none) (by first |rfl |(simp only[firstArgMember];rfl)) ?_)
 refine wpAny_newObj_type ?_ (by size_fits)
 simp only[raiseNew]
 refine wpAny_bind (wpAny_handled ?_)
 rw[show A.in1.handled=none from hh]
 refine wpAny_bind (wpAny_pure (wpAny_throw ?_))
 refine wpAny_bind (wpAny_isInstance (T:="StopIteration") (b:=true) ⟨_,lh _ rfl,rfl⟩ isSubtype_stop ?_)
 exact wpAny_pure (hQ _ ((k.push _).push _))
end
end NhSet
namespace NhSet
open PySem PyProof.Rows
section
variable {prog:Program} {w:World} {A:Around} {E:Value→Shared→Prop} {s:Shared}
theorem fX{I:Addr}{first:Value}{i:Nat}{a:Addr}{n ep:Nat}{Q:Option Value→Shared→Prop}(hI:s.heap.get? I=some (ti first i a n ep)){es:Array (Int×Value)}{t:SetTable}(ha:s.heap.get? a=some (dq es ep t))(hf:t.fits es.size=true)(hn:es.size=n)
  (h:wpAny (model prog w) A.in1 (if let .int slot _:=first then do
    match ←setNext a slot.toNat i ep with
    |some (x,next)=>do
     setField (.ref I) 0 (rawInt next)
     setField (.ref I) 1 (rawInt (i+1))
     ret x
    |none=>do setField (.ref I) 2 .none;raiseNew (←newExc (.type "StopIteration") [])
   else do
    let some places ←seqItems? first |unsupported "internal:set_iterator"
    match places[i]? with
    |some (.int place _)=>do
     let x ←setNextDrawn a place.toNat ep
     setField (.ref I) 1 (rawInt (i+1))
     ret x
    |some _=>unsupported "internal:set_iterator"
    |none=>do setField (.ref I) 0 (rawInt 0);setField (.ref I) 2 .none;raiseNew (←newExc (.type "StopIteration") []))
   (fun(fin:Fin) s'=>∃r,fin=.done (.ret r)∧wpAny (model prog w) A (pure (some r)) Q E s')
   (fun e s'=>wpAny (model prog w) A (isInstance e (.type "StopIteration") >>= fun b=>if b=true then pure none else throw e) Q E s') s):
  wpAny (model prog w) A (pyNext (.ref I)) Q E s:=by
 have hT':s.TypeIs (.ref I) "set_iterator":=⟨_,hI,rfl⟩
 unfold pyNext
 refine wpAny_bind (wpAny_attempt (wpAny_callSpecial?_slot (name:=Str.ofString "__next__") hT' F.slot_next (wpAny_call_entry F.slot_next hT' F.uX ?_ (F.xp _))))
 unfold Builtin.«set_iterator.__next__»
 refine wpAny_bind (m:=slotArgs _ _ _) (wpAny_pure ?_)
 refine wpAny_bind (wpAny_fieldsOf hI rfl ?_)
 dsimp only
 refine wpAny_bind (wpAny_setEntries_of ha rfl hf ?_)
 rw[if_neg (by simp[hn])]
 exact h
abbrev C9(es:Array (Int×Value))(j:Nat):Value:=(es.getD j (0,.none)).2
theorem di{I:Addr}{o:Obj}{vs:Array Value}{k:Nat}{x:Value}{Q:Unit→Shared→Prop}(ho:s.heap.get? I=some o)(hd:o.data=.fields vs)(hk:k < vs.size)(hQ:∀h',Heap.SameBut I s.heap h'→h'.get? I=some {o with data:=.fields (vs.setIfInBounds k x)}→Q () {s with heap:=h'}):wpAny (model prog w) A (setField (.ref I) k x) Q E s:=by
 refine wpAny_setField ho hd hk (hQ _ (Heap.SameBut.update ..) ?_)
 have:=Heap.get?_update_self (Obj.mapFields fun vs=>vs.setIfInBounds k x) ho (Obj.isFreed_of_fields (Obj.data_mapFields hd _))
 rw[this]
 obtain⟨c,d,dt,sl⟩:=o
 simp only at hd
 subst hd
 rfl
theorem uZ(hh:A.handled=none){I T a:Addr}{es:Array (Int×Value)}{ep:Nat}{t:SetTable}(π:List Nat)(hp:∀j∈π,j < es.size)(hl:π.length=es.size)(hf:t.fits es.size=true)(hTI:T≠I)(haI:a≠I):
  Walks prog w A I [I,T,a] [I] (π.map (C9 es)).length (fun i v=>(π.map (C9 es))[i]? =some v)
   (fun i h=>h.get? I=some (ti (.ref T) i a es.size ep)∧h.get? T=some {cls:=.type "tuple",data:=.seq (π.map fun(i:Nat)=>rawInt i).toArray}∧h.get? a=some (dq es ep t)) where
 sub:=fun b hb=>by simp at hb;simp[hb]
 frame:=fun _ _ _ st hk=>⟨hk I (by simp) _ st.1,hk T (by simp) _ st.2.1,hk a (by simp) _ st.2.2⟩
 self:=fun _ _ _ _ st hQ=>rz st.1 hQ
 item:=fun i s Q E hi st hQ=>by
  obtain⟨hI,hT,ha⟩:=st
  rw[fH]at hi
  refine fX hI ha hf rfl ?_
  dsimp only
  refine wpAny_bind (wpAny_seqItems hT rfl ?_)
  dsimp only
  have e:(π.map fun(i:Nat)=>rawInt i).toArray[i]? =some (.int (π[i]:Nat) 0):=by
   simp[hi,rawInt]
  rw[e]
  dsimp only
  have hj:=hp π[i] (List.getElem_mem hi)
  unfold setNextDrawn
  refine wpAny_bind (wpAny_bind (wpAny_setState_of ha rfl hf ?_))
  dsimp only
  rw[if_neg (by simp)]
  have e2:es[((π[i]:Nat):Int).toNat]? =some (es[π[i]]):=by simp[hj]
  rw[e2]
  refine wpAny_pure ?_
  refine wpAny_bind (di hI rfl (by simp) fun h' hs' ho'=>?_)
  refine wpAny_pure ⟨_,rfl,wpAny_pure (hQ _ h' s.toks ?_ ⟨?_,?_,?_⟩ fun b o hb e=>hs'.extBut b o (fun z=>hb (by simp[z])) e)⟩
  ·simp[hi,C9,hj]
  ·rw[ho'];simp[rawInt]
  ·exact hs'.extBut T _ hTI hT
  ·exact hs'.extBut a _ haI ha
 done:=fun s Q E st hQ=>by
  obtain⟨hI,hT,ha⟩:=st
  refine fX hI ha hf rfl ?_
  dsimp only
  refine wpAny_bind (wpAny_seqItems hT rfl ?_)
  dsimp only
  have e:(π.map fun(i:Nat)=>rawInt i).toArray[(π.map (C9 es)).length]? =none:=by simp
  rw[e]
  dsimp only
  refine wpAny_bind (di hI rfl (by simp) fun h' hs' ho'=>?_)
  refine wpAny_bind (di (s:={s with heap:=h'}) ho' rfl (by simp) fun h2 hs2 _=>?_)
  exact rA (I:=I) (o:=dq es ep t) hh (fun h3 k=>hQ h3 s.toks fun b o hb e=>k b o (fun z=>hb (by simp[z])) e) (hs'.trans hs2).extBut
theorem lD {a:Addr} {es:Array (Int×Value)} {ep:Nat} {t:SetTable} {slot given:Nat} {Q:Option (Value×Nat)→Shared→Prop} (hb:w.params.followText "set-order"=true) (ha:s.heap.get? a=some (dq es ep t)) (hf:t.fits es.size=true)
  (h:Q (((pickOrder (w.params.setOrder a ep) es)[given]?).map fun e=>(e.2,slot)) s):wpAny (model prog w) A (setNext a slot given ep) Q E s:=by
 unfold setNext setsByText
 refine wpAny_bind (wpAny_setState_of ha rfl hf ?_)
 dsimp only
 refine wpAny_bind (wpAny_bind (wpAny_askSetting (wpAny_pure ?_)))
 rw[if_pos (show(model prog w).w.params.followText "set-order"=true from hb)]
 rw[if_neg (by simp)]
 refine wpAny_bind ?_
 unfold setWalk setsByText
 refine wpAny_bind (wpAny_setState_of ha rfl hf ?_)
 dsimp only
 refine wpAny_bind (wpAny_bind (wpAny_askSetting (wpAny_pure ?_)))
 rw[if_pos (show(model prog w).w.params.followText "set-order"=true from hb)]
 refine wpAny_bind (wpAny_askSetting (wpAny_pure ?_))
 exact wpAny_pure h
theorem mZ {a:Addr} {es:Array (Int×Value)} {ep:Nat} {t:SetTable} {slot given:Nat} {Q:Option (Value×Nat)→Shared→Prop} (hb:w.params.followText "set-order"=false) (hsz:es.size≤1) (hled:t.led=true) (ha:s.heap.get? a=some (dq es ep t)) (hf:t.fits es.size=true)
  (h:Q (match es[SetTable.below t.place slot]?,t.place[SetTable.below t.place slot]? with |some (_,x),some j=>some (x,j+1) |_,_=>none) s):wpAny (model prog w) A (setNext a slot given ep) Q E s:=by
 unfold setNext setsByText
 refine wpAny_bind (wpAny_setState_of ha rfl hf ?_)
 dsimp only
 refine wpAny_bind (wpAny_bind (wpAny_askSetting (wpAny_pure ?_)))
 rw[if_neg (show ¬((model prog w).w.params.followText "set-order"=true) by show ¬(w.params.followText "set-order"=true);rw[hb];decide)]
 have hd:(!t.plain&&decide (es.size > 1))=false:=by rw[decide_eq_false (by omega)];simp
 show wpAny _ _ (if (!t.plain&&decide (es.size > 1))=true then _ else _) _ _ _
 rw[hd,if_neg (by decide)]
 show wpAny _ _ ((if (!t.led&& !es.isEmpty)=true then unsupported "set:maker-not-led" else pure PUnit.unit) >>= _) _ _ _
 rw[hled,if_neg (by simp)]
 refine wpAny_bind (wpAny_pure ?_)
 exact wpAny_pure h
theorem xr (hh:A.handled=none) {I a:Addr} {es:Array (Int×Value)} {ep:Nat} {t:SetTable} (hb:w.params.followText "set-order"=true) (hf:t.fits es.size=true) (haI:a≠I):
  Walks prog w A I [I,a] [I] ((pickOrder (w.params.setOrder a ep) es).toList.map (·.2)).length (fun i v=>((pickOrder (w.params.setOrder a ep) es).toList.map (·.2))[i]? =some v)
   (fun i h=>h.get? I=some (ti (.int 0 0) i a es.size ep)∧h.get? a=some (dq es ep t)) where
 sub:=fun b hb=>by simp at hb;simp[hb]
 frame:=fun _ _ _ st hk=>⟨hk I (by simp) _ st.1,hk a (by simp) _ st.2⟩
 self:=fun _ _ _ _ st hQ=>rz st.1 hQ
 item:=fun i s Q E hi st hQ=>by
  obtain⟨hI,ha⟩:=st
  have hi':i < (pickOrder (w.params.setOrder a ep) es).size:=by simpa using hi
  refine fX hI ha hf rfl ?_
  dsimp only
  refine wpAny_bind (lD hb ha hf ?_)
  rw[Array.getElem?_eq_getElem hi']
  dsimp only[Z1]
  refine wpAny_bind (di hI rfl (by simp) fun h' hs' ho'=>?_)
  refine wpAny_bind (di (s:={s with heap:=h'}) ho' rfl (by simp) fun h2 hs2 ho2=>?_)
  refine wpAny_pure ⟨_,rfl,wpAny_pure (hQ _ h2 s.toks ?_ ⟨?_,?_⟩ fun b o hb e=>(hs'.trans hs2).extBut b o (fun z=>hb (by simp[z])) e)⟩
  ·simp[hi']
  ·rw[ho2];simp[rawInt]
  ·exact(hs'.trans hs2).extBut a _ haI ha
 done:=fun s Q E st hQ=>by
  obtain⟨hI,ha⟩:=st
  refine fX hI ha hf rfl ?_
  dsimp only
  refine wpAny_bind (lD hb ha hf ?_)
  rw[show(pickOrder (w.params.setOrder a ep) es)[((pickOrder (w.params.setOrder a ep) es).toList.map (·.2)).length]? =none by simp]
  dsimp only[Option.map_none]
  refine wpAny_bind (di hI rfl (by simp) fun h' hs' ho'=>?_)
  exact rA (I:=I) (o:=dq es ep t) hh (fun h3 k=>hQ h3 s.toks fun b o hb e=>k b o (fun z=>hb (by simp[z])) e) hs'.extBut
theorem oG{xs:Array Nat}(h:xs.size≤1):SetTable.below xs 0=0:=by
 obtain⟨l⟩:=xs
 match l,h with
 |[],_=>rfl
 |[p],_=>simp[SetTable.below,SetTable.below.go]
theorem u0{p:Nat}:SetTable.below #[p] (p+1)=1:=by simp[SetTable.below,SetTable.below.go]
theorem zg (hh:A.handled=none) {I a:Addr} {es:Array (Int×Value)} {ep:Nat} {t:SetTable} (hb:w.params.followText "set-order"=false) (hsz:es.size≤1) (hled:t.led=true) (hf:t.fits es.size=true) (haI:a≠I):
  Walks prog w A I [I,a] [I] (es.toList.map (·.2)).length (fun i v=>(es.toList.map (·.2))[i]? =some v)
   (fun i h=>h.get? I=some (ti (.int (if i=0 then 0 else (t.place.getD 0 0+1:Nat)) 0) i a es.size ep)∧h.get? a=some (dq es ep t)) where
 sub:=fun b hb=>by simp at hb;simp[hb]
 frame:=fun _ _ _ st hk=>⟨hk I (by simp) _ st.1,hk a (by simp) _ st.2⟩
 self:=fun _ _ _ _ st hQ=>rz st.1 hQ
 item:=fun i s Q E hi st hQ=>by
  obtain⟨hI,ha⟩:=st
  have hi':i < es.size:=by simpa using hi
  have hi0:i=0:=by omega
  subst hi0
  rw[if_pos rfl]at hI
  have hps:t.place.size=es.size:=by
   have:=hf;simp only[SetTable.fits,sy,beq_iff_eq]at this;exact this.1
  refine fX hI ha hf rfl ?_
  dsimp only
  refine wpAny_bind (mZ hb hsz hled ha hf ?_)
  rw[show((0:Int)).toNat=0 from rfl,oG (by omega),Array.getElem?_eq_getElem hi',Array.getElem?_eq_getElem (show 0 < t.place.size by omega)]
  dsimp only
  refine wpAny_bind (di hI rfl (by simp) fun h' hs' ho'=>?_)
  refine wpAny_bind (di (s:={s with heap:=h'}) ho' rfl (by simp) fun h2 hs2 ho2=>?_)
  refine wpAny_pure ⟨_,rfl,wpAny_pure (hQ _ h2 s.toks ?_ ⟨?_,?_⟩ fun b o hb e=>(hs'.trans hs2).extBut b o (fun z=>hb (by simp[z])) e)⟩
  ·simp[hi']
  ·rw[ho2]
   have:t.place.getD 0 0=t.place[0]:=by simp[Array.getD,show 0 < t.place.size by omega]
   simp[rawInt,this]
  ·exact(hs'.trans hs2).extBut a _ haI ha
 done:=fun s Q E st hQ=>by
  obtain⟨hI,ha⟩:=st
  have hps:t.place.size=es.size:=by
   have:=hf;simp only[SetTable.fits,sy,beq_iff_eq]at this;exact this.1
  have hlen:(es.toList.map (·.2)).length=es.size:=by simp
  rw[hlen]at hI
  refine fX hI ha hf rfl ?_
  dsimp only
  refine wpAny_bind (mZ hb hsz hled ha hf ?_)
  have hno:(match es[SetTable.below t.place (if es.size=0 then (0:Int)else ((t.place.getD 0 0+1:Nat):Int)).toNat]?,t.place[SetTable.below t.place (if es.size=0 then (0:Int)else ((t.place.getD 0 0+1:Nat):Int)).toNat]? with |some (_,x),some j=>some (x,j+1) |_,_=>(none:Option (Value×Nat)))=none:=by
   by_cases z:es.size=0
   ·rw[if_pos z,show((0:Int)).toNat=0 from rfl,oG (by omega),Array.getElem?_eq_none (by omega)]
   ·rw[if_neg z]
    obtain⟨⟨p⟩,hp⟩:∃q:{p:Nat // t.place=#[p]},True:=by
     generalize t.place=pl at hps
     obtain⟨l⟩:=pl
     match l,hps with
     |[],h=>simp at h;omega
     |[p],h=>exact⟨⟨p,rfl⟩,trivial⟩
     |_::_::_,h=>simp at h;omega
    rename_i hpl
    rw[hpl]
    simp only[Int.toNat_natCast]
    have:(#[p]:Array Nat).getD 0 0=p:=rfl
    rw[this,u0,Array.getElem?_eq_none (show es.size≤1 by omega)]
  rw[hno]
  dsimp only
  refine wpAny_bind (di hI rfl (by simp) fun h' hs' ho'=>?_)
  exact rA (I:=I) (o:=dq es ep t) hh (fun h3 k=>hQ h3 s.toks fun b o hb e=>k b o (fun z=>hb (by simp[z])) e) hs'.extBut
theorem zh{a:Addr}{es:Array (Int×Value)}{ep:Nat}{t:SetTable}{ks:List Str}{Q:Value→Shared→Prop}(ha:s.heap.get? a=some (dq es ep t))(S:SS w (ku w) ks es t)
  (hQ:∀(s':Shared) (I:Addr) (fp:List Addr) (St:Nat→Heap→Prop) (items:List Value),(∀b o,s.heap.get? b=some o→s'.heap.get? b=some o)→s.heap.objs.size≤s'.heap.objs.size→s'.gens=s.gens→s'.os=s.os→s'.toks=s.toks→(∀b∈fp,b=a∨s.heap.objs.size≤b)→s.heap.objs.size≤I→
   (∀A':Around,A'.handled=none→Walks prog w A' I fp [I] items.length (fun i v=>items[i]? =some v) St)→St 0 s'.heap→items.Perm (es.toList.map (·.2))→Q (.ref I) s'):
  wpAny (model prog w) A (pyIter (.ref a)) Q E s:=by
 have hT:s.TypeIs (.ref a) "set":=⟨_,ha,rfl⟩
 have hlt:a < s.heap.objs.size:=gE ha
 refine wpAny_pyIter_slot hT PySem.F.slot_set_iter (wpAny_call_entry PySem.F.slot_set_iter hT F.oF ?_ (PySem.F.args_set_iter_1 _))
 unfold Builtin.«frozenset.__iter__» Builtin.Frozenset.slot0 slotArgs
 simp only[List.isEmpty_nil,↓reduceIte,bind_assoc,Z5,bne_self_eq_false,bS]
 unfold Builtin.Frozenset.addrOf Builtin.Frozenset.sizeOf
 refine wpAny_bind (wpAny_pure ?_)
 try dsimp only
 refine wpAny_bind (wpAny_pure ?_)
 refine wpAny_bind (wpAny_bind (wpAny_setEntries_of ha rfl S.fits (wpAny_pure ?_)))
 refine wpAny_bind (tj ha S.fits ?_)
 cases hd:(!(w.params.followText "set-order")&&(!t.plain&&decide (es.size > 1)))with
 |true=>
  simp only[↓reduceIte]
  refine wpAny_bind (jb es.size (List.range es.size) s (by simp) fun π d hp=>?_)
  have hl:π.length=es.size:=by rw[hp.length_eq,List.length_range]
  have hm:∀j∈π,j < es.size:=fun j hj=>List.mem_range.mp (hp.mem_iff.mp hj)
  refine wpAny_bind (wpAny_newTuple (s:={s with drawn:=d}) ?_ (by rw[fH,hl];exact fits_of_scanBound S.bound))
  have ha2:(s.heap.push {cls:=.type "tuple",data:=.seq (π.map fun(i:Nat)=>rawInt i).toArray}).get? a=some (dq es ep t):=gw _ ha
  refine wpAny_bind (wpAny_setEpoch_of (s:={s with drawn:=d,heap:=s.heap.push {cls:=.type "tuple",data:=.seq (π.map fun(i:Nat)=>rawInt i).toArray}}) ha2 rfl S.fits ?_)
  refine wpAny_bind (wpAny_newObj_type ?_)
  have hs1:(s.heap.push {cls:=.type "tuple",data:=.seq (π.map fun(i:Nat)=>rawInt i).toArray}).objs.size=s.heap.objs.size+1:=by rw[Heap.size_push]
  refine wpAny_pure ⟨_,rfl,"set_iterator",_,⟨_,lh _ rfl,rfl⟩,F.slot_next.lookup,?_⟩
  refine hQ _ _ _ _ (π.map (C9 es)) (fun b o e=>gw _ (gw _ e)) (by rw[Heap.size_push,Heap.size_push];omega) rfl rfl rfl ?_ (by dsimp only;rw[hs1];omega)
   (fun A' hA=>uZ hA (T:=s.heap.objs.size) (a:=a) (ep:=ep) (t:=t) π hm hl S.fits (by dsimp only;rw[hs1];exact gI (Nat.lt_succ_self _)) (by dsimp only;rw[hs1];exact gI (uB hlt)))
   ⟨lh _ rfl,gw _ (lh _ rfl),gw _ ha2⟩ ?_
  ·intro b hb
   rcases Zal.mp hb with rfl |hb
   ·right;dsimp only;rw[hs1];omega
   rcases Zal.mp hb with rfl |hb
   ·right;exact fQ _
   ·left;exact Zab.mp hb
  ·refine(hp.map (C9 es)).trans ?_
   rw[show(List.range es.size).map (C9 es)=es.toList.map (·.2)from ?_]
   refine List.ext_getElem (by simp) fun i h1 h2=>?_
   have hi:i < es.size:=by simpa using h1
   simp[C9,hi]
 |false=>
  simp only[Bool.false_eq_true,↓reduceIte]
  refine wpAny_bind (wpAny_pure ?_)
  refine wpAny_bind (wpAny_setEpoch_of ha rfl S.fits ?_)
  refine wpAny_bind (wpAny_newObj_type ?_)
  refine wpAny_pure ⟨_,rfl,"set_iterator",_,⟨_,lh _ rfl,rfl⟩,F.slot_next.lookup,?_⟩
  have hfp:∀b∈[s.heap.objs.size,a],b=a∨s.heap.objs.size≤b:=fun b hb=>by
   rcases Zal.mp hb with rfl |hb
   ·right;exact fQ _
   ·left;exact Zab.mp hb
  cases hb:w.params.followText "set-order" with
  |true=>
   exact hQ _ _ _ _ ((pickOrder (w.params.setOrder a ep) es).toList.map (·.2)) (fun b o e=>gw _ e) (by rw[Heap.size_push];omega) rfl rfl rfl hfp (fQ _)
    (fun A' hA=>xr hA (t:=t) hb S.fits (gI hlt)) ⟨lh _ rfl,gw _ ha⟩ ((oE _ es).map _)
  |false=>
   have hled:t.led=true:=by rw[S.led,ku,hb];rfl
   have hsz:es.size≤1:=by
    rw[hb]at hd
    by_cases z:es.size=0
    ·omega
    ·rw[S.plain z]at hd
     simp at hd
     omega
   exact hQ _ _ _ _ (es.toList.map (·.2)) (fun b o e=>gw _ e) (by rw[Heap.size_push];omega) rfl rfl rfl hfp (fQ _)
    (fun A' hA=>zg hA (t:=t) hb hsz hled S.fits (gI hlt)) ⟨lh _ rfl,gw _ ha⟩ (List.Perm.refl _)
end
end NhSet
namespace NhSet
open PySem PyProof.Rows
namespace F
theorem BL:typeLookup (.type "set") "__len__"=pure (some (.builtin "set.__len__")):=by rw[typeLookup_type,builtinLookup_eq_fast];kernel_rfl
end F
section
variable {prog:Program} {w:World} {A:Around} {E:Value→Shared→Prop} {s:Shared}
theorem tm{a:Addr}{es:Array (Int×Value)}{ep:Nat}{t:SetTable}{ks:List Str}{Q:List Value→Shared→Prop}(hh:A.handled=none)(ha:s.heap.get? a=some (dq es ep t))(S:SS w (ku w) ks es t)
  (hQ:∀(s':Shared) (items:List Value),(∀b o,s.heap.get? b=some o→s'.heap.get? b=some o)→s'.gens=s.gens→s'.os=s.os→s.heap.objs.size≤s'.heap.objs.size→items.Perm (es.toList.map (·.2))→Q items s'):
  wpAny (model prog w) A (collect (.ref a)) Q E s:=by
 have hlt:a < s.heap.objs.size:=gE ha
 unfold collect
 refine wpAny_bind (wpAny_runValue (codeAny_builtin PySem.F.entry_proto_collect ?_))
 rw[Around.under_plainId PySem.F.plain_proto_collect _]
 show wpAny _ A.in1 (newList [] >>= fun l=>again (.builtin "list.__iadd__" ⟨[l,.ref a],[]⟩)) _ _ s
 refine wpAny_bind (wpAny_newObj_type ?_)
 refine wpAny_pure ⟨plainId_quiet PySem.F.plain_list_iadd _,codeAny_builtin PySem.F.entry_list_iadd ?_⟩
 rw[Around.under_plainId PySem.F.plain_list_iadd _]
 show wpAny _ A.in1 (Builtin.List.listExtendWith (.ref s.heap.objs.size) (.ref a) (.ref s.heap.objs.size)) _ _ _
 unfold Builtin.List.listExtendWith
 have ha1:(s.heap.push {cls:=.type "list",data:=.seq ([]:List Value).toArray}).get? a=some (dq es ep t):=gw _ ha
 have hT1:Shared.TypeIs {s with heap:=s.heap.push {cls:=.type "list",data:=.seq ([]:List Value).toArray}} (.ref a) "set":=⟨_,ha1,rfl⟩
 refine wpAny_bind (wpAny_typeOf hT1 ?_)
 have h1:Builtin.List.listSameRef (.ref s.heap.objs.size) (.ref a)=false:=by simp[Builtin.List.listSameRef];exact Nat.ne_of_gt hlt
 have h2:(Value.type "set" == Value.type "list")=false:=by decide
 have h3:(Value.type "set" == Value.type "tuple")=false:=by decide
 simp only[h1,h2,h3,Bool.or_false,bS]
 refine wpAny_bind (zh ha1 S fun s2 I fp St items k2 z2 g2 o2 t2 hfp hI W hst hp=>?_)
 have hT2:s2.TypeIs (.ref a) "set":=⟨_,k2 a _ ha1,rfl⟩
 refine wpAny_bind (wpAny_holding ?_)
 unfold Builtin.List.listLengthHint
 refine wpAny_bind (wpAny_specialOf hT2 F.BL ?_)
 wp_delta
 refine wpAny_bind (wpAny_isInstance (T:="set") (b:=true) hT2 sub_set_self ?_)
 show wpAny _ A.in1 (typeOf (Value.ref a) >>= _) _ _ _
 refine wpAny_bind (wpAny_typeOf hT2 ?_)
 refine wpAny_pure ?_
 rw[if_pos (by decide)]
 refine wpAny_bind (wpAny_rule ?_)
 have hS0:s2.heap.get? s.heap.objs.size=some {cls:=.type "list",data:=.seq ([]:List Value).toArray}:=k2 _ _ (lh _ rfl)
 refine wpAny_bind ?_
 show wpAny _ A.in1 (updateSeq s.heap.objs.size (·.push .none) >>= fun _=>updateSeq s.heap.objs.size (·.pop)) _ _ _
 refine wpAny_bind (wpAny_updateSeq hS0 rfl ?_)
 have hS2:=Heap.get?_update_self (Obj.mapSeq (·.push Value.none)) hS0 rfl
 refine wpAny_updateSeq hS2 rfl ?_
 have hS3:=Heap.get?_update_self (Obj.mapSeq (·.pop)) hS2 rfl
 have oth:∀b o,b≠s.heap.objs.size→s2.heap.get? b=some o→
   ((s2.heap.update s.heap.objs.size (Obj.mapSeq (·.push Value.none))).update s.heap.objs.size (Obj.mapSeq (·.pop))).get? b=some o:=
  fun b o hb e=>(AL _ _ (Ne.symm hb)).trans ((AL _ _ (Ne.symm hb)).trans e)
 have hz1:(s.heap.push {cls:=.type "list",data:=.seq ([]:List Value).toArray}).objs.size=s.heap.objs.size+1:=by rw[Heap.size_push]
 have hnS:∀b,(s.heap.push {cls:=.type "list",data:=.seq ([]:List Value).toArray}).objs.size≤b→b≠s.heap.objs.size:=fun b hb e=>by
  rw[hz1,e]at hb;exact Nat.not_succ_le_self _ hb
 have hSf:s.heap.objs.size∉fp:=fun hm=>by
  rcases hfp _ hm with e |e
  ·exact absurd e (Nat.ne_of_gt hlt)
  ·exact hnS _ e rfl
 have hlen:items.length≤sizeLine:=by
  rw[hp.length_eq];simpa using fits_of_scanBound S.bound
 refine wpAny_pure ⟨plainId_quiet PySem.F.plain_extend_loop _,codeAny_extend_loopS (W A.in1 (by simp[hh])).toS hlen _ hSf _ items.length 0 _ _ _ rfl (Nat.zero_le _)
  ((W A.in1 (by simp[hh])).frame 0 s2.heap _ hst fun b hb o e=>oth b o (fun z=>hSf (z▸hb)) e) hS3 (ItemsOf.nil _) fun s' acc' c' hm hS' hacc=>?_⟩
 show wpAny _ A (load s.heap.objs.size >>= _) _ _ s'
 refine wpAny_bind (wpAny_load hS' ?_)
 have hacc':acc'.toList=items:=by
  refine List.ext_getElem? fun i=>?_
  rw[Array.getElem?_toList]
  by_cases hi:i < acc'.size
  ·rw[Array.getElem?_eq_getElem hi]
   exact(hacc.2 i _ (Array.getElem?_eq_getElem hi)).symm
  ·rw[Array.getElem?_eq_none (by omega),List.getElem?_eq_none (by rw[←hacc.1];omega)]
 refine wpAny_pure ?_
 rw[hacc']
 refine hQ s' items (fun b o e=>?_) (hm.gens.trans g2) (hm.os.trans o2) (kE (gE hS')) hp
 have hb:b < s.heap.objs.size:=gE e
 refine hm.heap b o (fun z=>?_) (oth b o (gI hb) (k2 b o (gw _ e)))
 rcases Zal.mp z with z |z
 ·exact absurd z (gI hb)
 ·rw[Zab.mp z]at hb
  have hI':s.heap.objs.size+1≤I:=by rw[←hz1];exact hI
  exact absurd (kj (Nat.lt_succ_self _) hI') (Nat.lt_asymm hb)
theorem u4{a:Addr}{ks:List Str}{Q:Value→Shared→Prop}(hh:A.handled=none)(hS:StrSet w s.heap a (ku w) ks)(h64:ks.length < 64)
  (h:∀(s':Shared) (l:Addr) (out:Array Value) (e:Nat) (ss':List Str),(∀b o,s.heap.get? b=some o→s'.heap.get? b=some o)→s'.gens=s.gens→s'.os=s.os→s.heap.objs.size≤l→s'.heap.get? l=some (seqObj "list" out e)→StrsAre out.toList ss'→ss'.Perm ks→sortedS ss'=true→Q (.ref l) s'):
  wpAny (model prog w) A (call (.builtin "sorted") [.ref a]) Q E s:=by
 obtain⟨es,ep,t,ha,S⟩:=hS
 refine Calls.call_function_entry kind_sorted plain_sorted entry_sorted (args_sorted1 _) ?_
 unfold Builtin.«sorted»
 refine wpAny_bind (m:=checkCount "sorted" 1 1 _) (wpAny_pure ?_)
 refine wpAny_bind (tm (by simp[hh]) ha S fun s1 items k1 g1 o1 hsz hp=>?_)
 have hpk:(items.map strOf).Perm ks:=(hp.map strOf).trans (by rw[List.map_map];exact S.perm)
 have hst:∀v∈items,∃x tk,v=.str x tk:=fun v hv=>by
  obtain⟨e,he,rfl⟩:=Zap.mp (hp.mem_iff.mp hv)
  obtain⟨x,tk,rfl⟩:=S.elems e he
  exact⟨x,tk,rfl⟩
 have hSA:=strsAre_map items hst
 have hl64:items.length < 64:=by have:=hpk.length_eq;rw[fH]at this;omega
 refine wpAny_bind (wpAny_newList ?_)
 have hoL:(s1.heap.push (seqObj "list" items.toArray 0)).get? s1.heap.objs.size=some (seqObj "list" items.toArray 0):=lh _ rfl
 refine wpAny_bind (wpAny_holding (wpAny_call_entry slot_list_sort ⟨_,hoL,rfl⟩ entry_list_sort (list_sort_treeK (s:={s1 with heap:=s1.heap.push (seqObj "list" items.toArray 0)}) strKind_oneLt hoL hSA.keysOf (fun v₁ v₂ eN e=>keyKind_strs (by rw[←e];exact hSA)) hl64 fun st' a1 a2=>⟨_,rfl,?_⟩) (args_list_sort _)))
 obtain⟨ss',b1,b2,b3⟩:=sorted_out_str hSA a1 a2
 obtain⟨e,he⟩:=sortedHeap_at (out:=(arrOf st').map (·.2)) hoL
 refine wpAny_pure ⟨_,rfl,h _ s1.heap.objs.size _ e ss' (fun b o hb=>?_) g1 o1 hsz he b1 (b2.trans hpk) b3⟩
 have hb1:=k1 b o hb
 have hlt:=gE hb1
 dsimp only
 rw[sortedHeap_old (gI hlt) (by rw[size_push'];exact uB hlt),Heap.get?_push_ne _ _ _ (gI hlt)]
 exact hb1
end
end NhSet
namespace PL
open PySem L2 Nh
def xt(w:World)(a:Addr)(ks:List Str):HO:=.ext fun h=>NhSet.StrSet w h a (NhSet.ku w) ks
theorem zi(ns:List Str)(n:Nat)(h:n=ns.length):NhSet.kM (fun i=>ns.getD i ⟨#[]⟩) n=jD ns:=by
 have e:(List.range n).map (fun i=>ns.getD i ⟨#[]⟩)=ns:=by
  subst h
  refine List.ext_getElem (by simp) fun i h1 h2=>?_
  simp[h2]
 show((List.range n).map (fun i=>ns.getD i ⟨#[]⟩)).foldl NhSet.nu []=ns.foldl AN []
 rw[e]
 rfl
theorem xu(x:Str):NhSet.kM (NhSet.iV x) x.cps.size=jD (lA x):=by
 have e:(List.range x.cps.size).map (NhSet.iV x)=lA x:=by
  refine List.ext_getElem (by simp[lA]) fun i h1 h2=>?_
  have hi:i < x.cps.size:=by simpa using h1
  simp[lA,NhSet.iV,hi]
 show((List.range x.cps.size).map (NhSet.iV x)).foldl NhSet.nu []=(lA x).foldl AN []
 rw[e]
 rfl
section
variable {X:Cx} {e:Expr} {m1:Bool} {f:bH} {p p2 pos pos2:Pos}
def tu(K:Frag)(w:World):List V→Hp→VK→Prop:=fun xs H Q=>
 (∃(p:Addr) (ss:List Str),xs=[.ref p]∧SqL K H p (ss.map V.str)∧ss.length < 4000∧∀a,H a=none→Q (.ref a) (upd H a (xt w a (jD ss))))∨
 ∃x:Str,xs=[.str x]∧(lA x).length < 4000∧∀a,H a=none→Q (.ref a) (upd H a (xt w a (jD (lA x))))
theorem xv(hc:X.calm=true):CallR X (.type "set") (tu X.K X.w):=by
 intro pins s σ H xs us Q I r h
 rcases h with⟨p,ss,rfl,hq,hl,q⟩ |⟨x,rfl,hl,q⟩
 ·cases r with
  |cons r rr=>
   cases rr
   cases r
   obtain⟨its,rv,pl,hz⟩:=I.list hq
   have hS:=ov rv
   have hlen:its.length=ss.length:=by have:=rv.length;simpa using this.symm
   refine NhSet.xo (I.ok.hd hc) pl.isList (by simpa using hS) (by simp only[l_,scanBound];omega) fun h' tk S k=>?_
   rw[zi ss its.toArray.size (by simpa using hlen)]at S
   exact⟨.ref s.heap.objs.size,_,I.laid (fun b o e=>k b o (gE e) e) (fQ _) (show ObjOk X.prog X.w _ _ _ (xt X.w s.heap.objs.size (jD ss))from⟨S,S.obj,fun h1 h2 T kk=>T.at' kk⟩),rfl,q _ (I.hok.fresh (fQ _))⟩
 ·cases r with
  |cons r rr=>
   cases rr
   obtain⟨t,rfl⟩:=r
   have hl2:x.cps.size < 4000:=by simpa[lA]using hl
   refine NhSet.zf (I.ok.hd hc) (by simp only[scanBound];omega) fun h' tk S k=>?_
   rw[xu]at S
   exact⟨.ref s.heap.objs.size,_,I.laid (fun b o e=>k b o (gE e) e) (fQ _) (show ObjOk X.prog X.w _ _ _ (xt X.w s.heap.objs.size (jD (lA x)))from⟨S,S.obj,fun h1 h2 T kk=>T.at' kk⟩),rfl,q _ (I.hok.fresh (fQ _))⟩
def zj(w:World):List V→Hp→VK→Prop:=fun xs H Q=>∃(a:Addr) (ks:List Str),xs=[.ref a]∧H a=some (xt w a ks)∧ks.length < 64∧∀l,H l=none→Q (.ref l) (upd H l (.lst ((ja ks).map V.str)))
theorem rB(hc:X.calm=true):CallR X (.builtin "sorted") (zj X.w):=by
 intro pins s σ H xs us Q I r h
 obtain⟨a,ks,rfl,ha,h64,q⟩:=h
 cases r with
 |cons r rr=>
  cases rr
  cases r
  obtain⟨S,_,_⟩:ObjOk X.prog X.w H s.heap a (xt X.w a ks):=I.hok a _ ha
  refine NhSet.u4 (I.ok.hd hc) S h64 fun s' l out e ss' k g o hl he b1 b2 b3=>?_
  have:=ou b2 b3
  subst this
  have new:ObjOk X.prog X.w (upd H l (.lst ((ja ks).map V.str))) s'.heap l (.lst ((ja ks).map V.str)):=⟨by rw[fH,mq];exact fW (by omega),out.toList,e,oA b1,he⟩
  exact⟨.ref l,_,I.call' (ch:=[]) o (Un.laid k hl (I.hok.fresh hl)) (I.hok.laid k hl new) (by rw[g];exact I.bare) (fun _ z=>nomatch z),rfl,q _ (I.hok.fresh hl)⟩
theorem oH (hc:X.calm=true) (hg:Gl X "sorted") (hm:X.mg "sorted"=none) (hg2:Gl X "set") (hm2:X.mg "set"=none) (ha:EX X e m1 f) (he:starEach [e] X.env=[(false,eval e X.env)]:=by rfl)
  (he2:starEach [.Call (.Name "set" p2) [e] [] pos2] X.env=[(false,eval (.Call (.Name "set" p2) [e] [] pos2) X.env)]:=by rfl):EX X (.Call (.Name "sorted" p) [.Call (.Name "set" p2) [e] [] pos2] [] pos) m1 (jE f):=by
 refine bW (jm (rB hc) hg hm PyProof.Rows.boot_sorted (eI (p7 (xv hc) hg2 hm2 PyProof.Rows.boot_set (eI ha gy he) (by decide) (by decide) he rfl) gy he2) (by decide) (by decide) he2 rfl) fun σ H Q z=>?_
 obtain⟨B,E,xs,Xs,res,E',fr,cl,e,q⟩:=z
 obtain⟨⟨s,E1⟩,e1,e⟩:=Za.mp e
 refine⟨B,E,xs,Xs,s,E1,fr,cl,e1,fun v1 H1 ⟨F,A,fr1⟩=>?_⟩
 obtain⟨A',fr2⟩:=fr1.pop
 simp only at e
 split at e
 ·rename_i ds ld
  obtain⟨ss,es,e⟩:=Za.mp e
  split at e
  ·rename_i hc
   cases e
   have r:=(fr1.look0 ld).1
   cases r with
   |lst h1 h2=>
    have:=nO h2 es
    subst this
    exact .inl ⟨_,ss,rfl,h1,hc.1,fun a ha=>⟨a,_,rfl,upd_same,hc.2,fun l hl=>q _ _ ⟨_,_,(fr2.grow (fg ha _)).newl (jC _) hl⟩⟩⟩
  ·cases e
 ·rename_i x ld
  split at e
  ·rename_i hc
   cases e
   have r:=(fr1.look0 ld).1
   cases r
   exact .inr ⟨x,rfl,hc.1,fun a ha=>⟨a,_,rfl,upd_same,hc.2,fun l hl=>q _ _ ⟨_,_,(fr2.grow (fg ha _)).newl (jC _) hl⟩⟩⟩
  ·cases e
 ·cases e
end
end PL
namespace PL
open PySem L2 Nh
theorem wc {X:Cx} {x:Str} {i:Int} {t:Tok} {pos:Pos} (hg:Gl X x) (hm:X.mg x=some (.int i t)) (hd:(x == ("__debug__":Str))=false:=by decide):EX X (.Name x pos) false (pC (.int i)):=by
 refine bW (qK (v:=.int i) hg hm ⟨t,rfl⟩ hd) fun σ H Q z=>?_
 obtain⟨B,E,xs,Xs,res,E',⟨F,A,fr⟩,cl,e,q⟩:=z
 cases e
 exact q _ _ ⟨F,A,fr.push ⟨rfl,_,rfl,.int _⟩⟩
theorem BM {X:Cx} {x y:Str} {t:Tok} {pos:Pos} (hg:Gl X x) (hm:X.mg x=some (.str y t)) (hd:(x == ("__debug__":Str))=false:=by decide):EX X (.Name x pos) false (pC (.str y)):=by
 refine bW (qK (v:=.str y) hg hm ⟨t,rfl⟩ hd) fun σ H Q z=>?_
 obtain⟨B,E,xs,Xs,res,E',⟨F,A,fr⟩,cl,e,q⟩:=z
 cases e
 exact q _ _ ⟨F,A,fr.push ⟨rfl,_,rfl,.str _⟩⟩
end PL
namespace Nh
open PySem L2
theorem NailsOk.stp{r:List Pc}{p:Pc}(h:NailsOk r)(hp:p.1 < 128):NailsOk (NH.stp r p):=by
 cases r with
 |nil=>
  show NailsOk (if p.2=0 then []else [p])
  split
  ·exact h
  ·intro q hq;rw[Zab.mp hq];exact hp
 |cons x r=>
  rw[NH.iF]
  intro q hq
  rcases Zan.mp hq with h1 |h1
  ·unfold NH.yg at h1
   split at h1
   ·split at h1
    ·cases h1
    ·rw[Zab.mp h1];exact hp
   ·split at h1
    ·rw[Zab.mp h1];exact h x (io ..)
    ·rcases Zal.mp h1 with h2 |h2
     ·rw[h2];exact hp
     ·rw[Zab.mp h2];exact h x (io ..)
  ·exact h q (il _ h1)
theorem NailsOk.foldl:∀(c:List Pc) {r:List Pc},NailsOk r→NailsOk c→NailsOk (c.foldl NH.stp r)
 |[],_,h,_=>h
 |p::c,_,h,hc=>NailsOk.foldl c (h.stp (hc p (io ..))) fun q hq=>hc q (il _ hq)
theorem NailsOk.take{c:List Pc}(h:NailsOk c)(i:Nat):NailsOk (c.take i):=fun p hp=>h p (List.mem_of_mem_take hp)
theorem NailsOk.drop{c:List Pc}(h:NailsOk c)(i:Nat):NailsOk (c.drop i):=fun p hp=>h p (List.mem_of_mem_drop hp)
theorem NailsOk.reverse{c:List Pc}(h:NailsOk c):NailsOk c.reverse:=fun p hp=>h p (List.mem_reverse.mp hp)
theorem NailsOk.append{c d:List Pc}(h:NailsOk c)(h':NailsOk d):NailsOk (c++d):=fun p hp=>(Zan.mp hp).elim (h p) (h' p)
theorem NailsOk.short{c:List Pc}(h:NailsOk c):NailsOk (NH.short c):=(NailsOk.foldl c (fun _ z=>by cases z) h).reverse
end Nh
namespace Nh
open PySem L2 PL
theorem NailsOk.rep{c:List Pc}(h:NailsOk c)(k:Nat):NailsOk (List.replicate k c).flatten:=fun p hp=>by
 obtain⟨l,hl,hpl⟩:=List.mem_flatten.mp hp
 rw[(List.mem_replicate.mp hl).2]at hpl
 exact h p hpl
theorem FN:∀j,j < 26→(Str.ofString "abcdefghijklmnopqrstuvwxyz").cps.toList[j]? =some (97+j):=by decide+kernel
theorem GZ(v:Int):atI (Str.ofString "abcdefghijklmnopqrstuvwxyz").cps.toList (v % 26)=some (97+(v % 26).toNat):=by
 have h0:=Int.emod_nonneg v (show(26:Int)≠0 by decide)
 have h1:=Int.emod_lt_of_pos v (show(0:Int) < 26 by decide)
 rw[y4 h0]
 exact FN _ (by omega)
theorem Em:(Str.ofString "abcdefghijklmnopqrstuvwxyz").length≤1000000:=by decide+kernel
theorem BN{i j:Int}(h1: -(2 ^ 64) < j)(h2:j < 2 ^ 64):jr i j=true:=by
 simp only[jr,Bool.or_eq_true,decide_eq_true_eq]
 exact .inl (.inr ⟨h1,h2⟩)
theorem BO{i j:Int}(h1: -(2 ^ 64) < i)(h2:i < 2 ^ 64):jr i j=true:=by
 simp only[jr,Bool.or_eq_true,decide_eq_true_eq]
 exact .inl (.inl ⟨h1,h2⟩)
theorem fm(i j:Int):AM (.int i) (.int j)=some (decide (i=j)):=rfl
theorem nP(i j:Str):AM (.str i) (.str j)=some (decide (i=j)):=rfl
theorem zk{c d:List Pc}(hc:NailsOk c)(hd:NailsOk d):AM (.list (c.map aY)) (.list (d.map aY))=some (decide (c=d)):=by
 have e:AM (.list (c.map aY)) (.list (d.map aY))=(if SeqAt.shaped (km c)&&SeqAt.shaped (km d)then some (PyData.eqv (km c) (km d))else none):=rfl
 rw[e,mV hc,mV hd,yF]
 rfl
theorem wd(a b:Nat):((⟨#[a]⟩:Str)=⟨#[b]⟩)=(a=b):=propext ⟨fun h=>by
 injection h with h
 simpa using congrArg Array.toList h,fun h=>by rw[h]⟩
end Nh
namespace L2
open PySem PySem.Spec PyProof.Rows
def we(K:Frag)(h:Heap):Prop:=∀b q,ji K b=some q→h.get? b=some (tabObj #[])∧(∃c,PySem.W.CodeHd h c b)∧K.lookup b=none
def eD(K:Frag)(a:Addr)(so:Option HO):Hp:=fun b=>match ji K b with
 |some q=>some (.tbl q)
 |none=>if b=a then so else none
theorem u5{K:Frag}{a b:Addr}{so:Option HO}{q:Str}(e:ji K b=some q):eD K a so b=some (.tbl q):=by unfold eD;rw[e]
theorem xw{K:Frag}{a:Addr}{so:Option HO}(e:ji K a=none):eD K a so a=so:=by unfold eD;rw[e];exact if_pos rfl
theorem gv{K:Frag}{a b:Addr}{so:Option HO}{u:HO}(e:eD K a so b=some u):(∃q,ji K b=some q∧u=.tbl q)∨(b=a∧so=some u):=by
 unfold eD at e
 split at e
 ·rename_i q h;cases e;exact .inl ⟨q,h,rfl⟩
 ·by_cases hb:b=a
  ·rw[if_pos hb]at e;exact .inr ⟨hb,e⟩
  ·rw[if_neg hb]at e;cases e
section
variable {P:Program} {w:World} {K:Frag} {mg mb:Str→Option Value} {CX:wX} {k:Nat} {fa a:Addr} {fd:FuncData} {x:Str} {sp:Sp} {s₁:Shared} {vs:List Value} {ns:List Int}
theorem BP (KX:K.In s₁.heap) (hns:s₁.heap.Ns mainGlobals mg) (hb:s₁.heap.Ns builtinsNs mb) (hbb:∀x:Str,x≠"__name__"→mb x=bootBuiltins x) (hlim:s₁.heap.NoLimit) (hg:s₁.gens=#[]) (hbm:∃bm ob,mg "__builtins__"=some (.ref bm)∧bm≠builtinsNs∧s₁.heap.get? bm=some ob∧ob.cls=.type "module"∧ob.dict=some builtinsNs∧ob.data=.plain) (hT:we K s₁.heap)
  (ha:s₁.heap.get? a=some {cls:=.type "list",data:=.seq vs.toArray}) (hi:IntsAre vs ns) (hl:ns.length≤sizeLine) (hr:Room k callerA)
  (F:∀base:Heap,K.In base→base.Ns mainGlobals mg→FnOk P w K mg base CX k fa fd [x] sp) (hbind:∀(s:Shared) (u:Value),BindsTo s fd ⟨[u],[]⟩ [(x,u)])
  (hsp:∀H:Hp,SqL K H a (ns.map V.int)→sp [.ref a] H (fun v _=>v=.bl true) fun _ _ _=>False)
  (hCX:∀H e s',CX [] H s₁ (fun _ _ _=>False) e s'→False):
  codeAny (model P w) callerA (.call (.ref fa) ⟨[.ref a],[]⟩) (fun r s'=>r=.ok (.ret (.bool true))∧OldK s₁.heap s'.heap∧s'.os=s₁.os∧AllBare s'.gens) s₁:=by
 have rv:=jU hi
 have lenV:=hi.length
 have tabA:ji K a=none:=by
  cases q:ji K a with
  |none=>rfl
  |some z=>
   have e:=(hT a z q).1
   rw[ha]at e
   cases e
 have main:∀so:Option HO,(so=none∨(so=some (.frz {cls:=.type "list",data:=.seq vs.toArray} (.lst (ns.map V.int)))∧K.lookup a=none))→SqL K (eD K a so) a (ns.map V.int)→
   codeAny (model P w) callerA (.call (.ref fa) ⟨[.ref a],[]⟩) (fun r s'=>r=.ok (.ret (.bool true))∧OldK s₁.heap s'.heap∧s'.os=s₁.os∧AllBare s'.gens) s₁:=by
  intro so hso hS
  have hok:HOk P w (eD K a so) s₁.heap:=fun b u e=>by
   rcases gv e with⟨q,e1,rfl⟩ |⟨rfl,e1⟩
   ·exact ObjOk.tbl0 (hT b q e1).1
   ·rcases hso with z |⟨z,_⟩
    ·rw[z]at e1;cases e1
    ·rw[z]at e1;cases e1
     exact⟨ha,by rw[fH];exact hl,vs,_,rv,ha⟩
  have free:∀{b:Addr} {o:Obj} {es:Array DictEntry} {ep:Nat},s₁.heap.get? b=some o→o.data=.dict es ep→eD K a so b=none:=fun {b o es ep} e d=>by
   cases q:eD K a so b with
   |none=>rfl
   |some u=>
    rcases gv q with⟨z,e1,_⟩ |⟨rfl,_⟩
    ·rw[(hT b z e1).1]at e;cases e;cases d
    ·rw[ha]at e;cases e;cases d
  have nsK:∀{b:Addr} {m:Str→Option Value},s₁.heap.Ns b m→(sC s₁.heap (eD K a so)).Ns b m:=fun {b m} ⟨o,es,ep,e,d,r⟩=>⟨o,es,ep,nS e (free e d),d,r⟩
  have kin:K.In (sC s₁.heap (eD K a so)):=fun b o e=>nS (KX b o e) (by
   cases q:eD K a so b with
   |none=>rfl
   |some u=>
    rcases gv q with⟨z,e1,_⟩ |⟨rfl,e1⟩
    ·rw[(hT b z e1).2.2]at e;cases e
    ·rcases hso with z |⟨_,z⟩
     ·rw[z]at e1;cases e1
     ·rw[z]at e;cases e)
  have bmK:∃bm ob,mg "__builtins__"=some (.ref bm)∧bm≠builtinsNs∧(sC s₁.heap (eD K a so)).get? bm=some ob∧ob.cls=.type "module"∧ob.dict=some builtinsNs∧ob.data=.plain:=by
   obtain⟨bm,ob,c1,c2,c3,c4,c5⟩:=hbm
   refine⟨bm,ob,c1,c2,nS c3 ?_,c4,c5⟩
   cases q:eD K a so bm with
   |none=>rfl
   |some u=>
    rcases gv q with⟨z,e1,_⟩ |⟨rfl,_⟩
    ·rw[(hT bm z e1).1]at c3;cases c3;cases c4
    ·rw[ha]at c3
     cases c3
     injection c4 with c6
     exact absurd c6 (by decide)
  have e0:Env0 P w K mg (sC s₁.heap (eD K a so)) callerA [] s₁ (eD K a so):=
   ⟨rfl,⟨kin,nsK hns,⟨mb,nsK hb,hbb⟩,let ⟨mc,h1,h2⟩:=hlim;⟨mc,nsK h1,h2⟩,bmK⟩,fun b o e=>AS e,Nat.le_of_eq (wP _ _),trivial,fun b hb=>absurd (show b∈([]:List Addr)from hb) (by simp),hok,.of_eq hg,fun b q e=>u5 e⟩
  refine codeAny_mono ((F _ kin (nsK hns)).run callerA [] s₁ _ ⟨[.ref a],[]⟩ [.ref a] [.ref a] _ _ hr e0 (hbind s₁ (.ref a)) (.cons rfl .nil) (hsp _ hS)) fun r s' h=>?_
  cases r with
  |error e=>exact(hCX _ e s' h).elim
  |ok fl=>
   cases fl with
   |next=>exact False.elim h
   |brk=>exact False.elim h
   |cont=>exact False.elim h
   |ret u=>
    obtain⟨v,H',os,bare,un,hok',r',q⟩:=h
    have q':v=.bl true:=q
    subst q'
    obtain rfl:u=Value.bool true:=r'
    have nofs:∀b,b∉jS ([]:List Env):=fun b z=>absurd (show b∈([]:List Addr)from z) (by simp)
    have step:∀b o,s₁.heap.get? b=some o→asItWas s₁.heap s'.heap b o∧∃o',s'.heap.get? b=some o':=fun b o e=>by
     cases q:eD K a so b with
     |none=>exact⟨.inl (un.keep b o e q (nofs b) (by simp)),_,un.keep b o e q (nofs b) (by simp)⟩
     |some u=>
      rcases gv q with⟨z,e1,rfl⟩ |⟨rfl,e1⟩
      ·obtain⟨t1,⟨c,t2⟩,_⟩:=hT b z e1
       obtain⟨ps,p1,_⟩:=hok' b _ (un.tbls b z q)
       rw[t1]at e
       cases e
       exact⟨.inr (.inl ⟨(t2.tab t1).isCodeTable,rfl,#[],ps,rfl,by simpa using p1⟩),_,p1⟩
      ·rcases hso with z |⟨z,_⟩
       ·rw[z]at e1;cases e1
       ·rw[z]at e1;cases e1
        have z2:=un.frzs b _ _ q
        obtain⟨e2,_⟩:=hok' b _ z2
        rw[ha]at e;cases e
        exact⟨.inl e2,_,e2⟩
    exact⟨rfl,⟨fun b o e=>(step b o e).1,fun b o e=>(step b o e).2⟩,os,bare⟩
 cases hk:K.lookup a with
 |some o=>
  have e:=KX a o hk
  rw[ha]at e
  cases e
  exact main none (.inl rfl) (.inr ⟨_,vs.toArray,_,hk,rfl,rfl,rfl,by rw[l_,lenV];exact hl,by simpa using rv⟩)
 |none=>exact main _ (.inr ⟨rfl,hk⟩) (.inl (.inr ⟨_,xw tabA⟩))
end
theorem zl{l:OpenLaw}{n k:Nat}{q:Program}{loose:List Str}{XP:(Str→Option Value)→Heap→Prop}{YP:World→Heap→Prop}{d:DefRec}{K:Params→Frag}{CX:World→wX}{sp:World→Sp}{x:Str}
  (hn:l.most=some n) (hn2:n≤sizeLine) (hdf:d.params.defaults=[]) (hr:Room k callerA)
  (hY:∀(w:World) (h:Heap),YP w h→(K w.params).In h∧we (K w.params) h)
  (F:∀(w:World) (mg:Str→Option Value) (fa:Addr) (h:Heap),(K w.params).In h→h.Ns mainGlobals mg→mg d.name=some (.ref fa)→
   ∃fd:FuncData,(∀(s:Shared) (u:Value),BindsTo s fd ⟨[u],[]⟩ [(x,u)])∧
    ∀base:Heap,(K w.params).In base→base.Ns mainGlobals mg→FnOk l.prog w (K w.params) mg base (CX w) k fa fd [x] (sp w))
  (hsp:∀(w:World) (H:Hp) (a:Addr) (ns:List Int),ns.length≤n→SqL (K w.params) H a (ns.map V.int)→sp w [.ref a] H (fun v _=>v=.bl true) fun _ _ _=>False)
  (hCX:∀(w:World) (H:Hp) (s:Shared) (e:Value) (s':Shared),CX w [] H s (fun _ _ _=>False) e s'→False):
  PySem.W.WalkO q loose XP YP l.row.toRowW d [] (fun f vs=>PySem.call f vs):=by
 refine Att.sG hn hdf fun w s₀ s₁ mg mb fa o pm cd doc a vs ns G Y ho hd hcd hmg hobj hints hlen hg=>?_
 obtain⟨KX,KT⟩:=hY w _ Y
 obtain⟨fd,hb,hF⟩:=F w mg fa _ KX G.T.g hmg
 exact BP KX G.T.g G.T.b G.T.builtins G.T.nolimit hg G.T.bmain KT hobj hints (kb hlen hn2) hr hF hb (fun H hS=>hsp w H a ns hlen hS) fun H e s'=>hCX w H s₁ e s'
end L2
namespace PL
open PySem L2 Nh
def qi(g:ln):bH:=fun E=>(g E).bind fun a=>(cJ a.2 a.1).bind fun ds=>if a.1.length≤1000000 then some (.br (.list ds),a.2)else none
theorem BQ{X:Cx}{es:List Expr}{m1:Bool}{g:ln}{pos:Pos}(h:AX X es m1 g):EX X (.List es pos) m1 (qi g):=by
 refine bW (yw h) fun σ H Q z=>?_
 obtain⟨B,E,xs,Xs,res,E',fr,cl,e,q⟩:=z
 obtain⟨⟨rs,E1⟩,e1,e⟩:=Za.mp e
 obtain⟨ds,e2,e⟩:=Za.mp e
 split at e
 ·rename_i hl
  cases e
  refine⟨B,E,xs,Xs,rs,_,fr,cl,e1,fun vs H1 hv ⟨F,A,fr1⟩=>?_⟩
  obtain⟨r,A',fr2⟩:=FrF.looks hv fr1 e2
  refine⟨fW (by simp only at hl;omega),fun p hp=>q _ _ ?_⟩
  have g:=fg hp (.lst vs)
  exact⟨_,_,(fr2.grow g).push ⟨rfl,_,rfl,.lst (SqL.of upd_same) (r.same g)⟩⟩
 ·cases e
def g_:P2:=fun E s1 s2=>(look E s1).bind fun d1=>(look E s2).bind fun d2=>match d1,d2 with
 |.list a,.list b=>if a.length+b.length≤1000000 then some (.br (.list (a++b)),E)else none
 |_,_=>none
theorem zn{K:Frag}:iH K (yI K) g_:=by
 intro B F A σ H E xs Xs v1 v2 s1 s2 res E' Q fr e q
 obtain⟨d1,e1,e⟩:=Za.mp e
 obtain⟨d2,e2,e⟩:=Za.mp e
 have r1:=(fr.look1 e1).1
 have r2:=(fr.look0 e2).1
 obtain⟨A1,fr1⟩:=fr.pop
 obtain⟨A2,fr2⟩:=fr1.pop
 split at e
 ·rename_i a b
  split at e
  ·rename_i hl
   cases e
   cases r1 with
   | @lst l1 us1 _ h1 k1=>
    cases r2 with
    | @lst l2 us2 _ h2 k2=>
     refine .inr (.inr ⟨_,_,_,_,rfl,rfl,h1,h2,fW (by rw[k1.len,k2.len];exact hl),fun p hp=>q _ _ ?_⟩)
     have g:=fg hp (.lst (us1++us2))
     exact⟨_,_,(fr2.grow g).push ⟨rfl,_,rfl,.lst (SqL.of upd_same) ((k1.same g).append (k2.same g))⟩⟩
  ·cases e
 ·cases e
section
variable {X:Cx} {a b:Expr} {m1 m2:Bool} {f g:bH} {pos:Pos}
theorem rC(ha:EX X a m1 f)(hb:EX X b m2 g):EX X (.BinOp a .Add b pos) (m1||m2) (ag g_ m2 f g):=n8 vX zn ha hb
end
end PL
namespace PL
open PySem PySem.Spec PyProof.Rows L2 Nh PySem.W PySem.Calls Builtin Builtin.ObjectAttr Builtin.Getset_descriptor
structure ExCls (K:Frag) (C:Addr):Prop where
 cls:∃cd,clsIn K C=some cd
 ga:findIn K (.ref C) "__getattribute__"=some (some (.builtin "BaseException.__getattribute__"))
 gt:findIn K (.ref C) "__getattr__"=some none
 ca:findIn K (.ref C) "__class__"=some (some (.builtin "object.__class__"))
 mb:mroIn K C (.type "BaseException")=some true
 mo:mroIn K C (.type "object")=some true
section
variable {K:Frag} {a C:Addr} {M:Model} {h:Heap}
theorem ms(p:gG a C h):Looks M h (typeOf (.ref a)) (.ref C):=by
 obtain⟨o,h1,h2⟩:=p
 exact h2▸(Looks.ld h1).andThen .now
theorem BR{prog:Program}{w:World}{A:Around}{R:Result→Shared→Prop}{s:Shared}{tp:Value}(Z:ExCls K C)(X:K.In s.heap)(I:gG a C s.heap)(h:R (.ok (.ret (.ref C))) s):
  codeAny (model prog w) A (.call (.builtin "getset_descriptor.__get__") ⟨[.builtin "object.__class__",.ref a,tp],[]⟩) R s:=by
 obtain⟨hh,g,dr,t,os⟩:=s
 have L0:=ms (M:=model prog w) I
 have L1:=looks_mroIn (M:=model prog w) X Z.mo
 refine codeAny_call_builtin KF.slot_gs.plain KF.entry_gs (KF.slot_gs.check _ _ _ _ _ _ _ _ KF.type_class (KF.args_gs _ _ _) ?_)
 unfold Builtin.«getset_descriptor.__get__» descrGet
 rw[dga_obj]
 refine wpAny_bind (wpAny_pure ?_)
 unfold descrGetter descrCheckInstance descrNameAndClass isInstance
 simp only[KF.owner_class]
 repeat lk
 refine⟨Code.quiet_builtin _ (by decide+kernel),codeAny_builtin KF.entry_class ?_⟩
 unfold Builtin.«object.__class__» shownTypeOf
 repeat lk
 exact h
theorem xx{prog:Program}{w:World}{A:Around}{E:Value→Shared→Prop}{Q:Fin→Shared→Prop}{s:Shared}{tk:Tok}(Z:ExCls K C)(X:K.In s.heap)(I:gG a C s.heap)(h:Q (.done (.ret (.ref C))) s):
  wpAny (model prog w) A (Builtin.«object.__getattribute__» ⟨[.ref a,.str "__class__" tk],[]⟩) Q E s:=by
 obtain⟨hh,g,dr,t,os⟩:=s
 have L0:=ms (M:=model prog w) I
 have L1:=looks_findIn (M:=model prog w) X Z.ca
 have hT5:(⟨hh,g,dr,t,os⟩:Shared).TypeIs (.builtin "object.__class__") "getset_descriptor":=F.typeOf_object_class
 have f5:=F.typeOf_object_class
 have f6:=F.slot_gs_get.lookup
 have f7:=F.slot_gs_set.lookup
 repeat (any_goals (first |assumption |with_reducible refine L0.at ?_ |with_reducible refine L1.at ?_ |wp_step))
 refine BR Z X I ?_
 repeat (any_goals (first |assumption |wp_step))
theorem xy{A:Around}{E:Value→Shared→Prop}{nameV:Value}{Q:Unit→Shared→Prop}{s:Shared}(Z:ExCls K C)(X:K.In s.heap)(I:gG a C s.heap)(hq:Q () s):wpAny M A (checkBuiltinCall "BaseException.__getattribute__" ⟨[.ref a,nameV],[]⟩) Q E s:=by
 obtain⟨hh,g,dr,t,os⟩:=s
 have L0:=ms (M:=M) I
 have L1:=looks_mroIn (M:=M) X Z.mb
 have hk:builtinKind "BaseException.__getattribute__"=some .slot:=by decide+kernel
 have hsplit:splitId "BaseException.__getattribute__"=some ("BaseException","__getattribute__"):=by decide+kernel
 have ha:=F.args_bexc_ga (.ref a) nameV
 simp only[checkBuiltinCall,hk,hsplit]
 refine wpAny_bind ?_
 unfold isInstance
 repeat (first |with_reducible refine L0.at ?_ |with_reducible refine L1.at ?_ |wp_step)
 exact hq
theorem En{prog:Program}{w:World}{A:Around}{E:Value→Shared→Prop}{Q:Value→Shared→Prop}{s:Shared}{tk:Tok}{fill expr:Bool}(Z:ExCls K C)(X:K.In s.heap)(I:gG a C s.heap)(hq:Q (.ref C) s):
  wpAny (model prog w) A (getAttrBy (.ref a) (.str "__class__" tk) fill expr) Q E s:=by
 obtain⟨hh,g,dr,t,os⟩:=s
 have L0:=ms (M:=model prog w) I
 have L1:=looks_findIn (M:=model prog w) X Z.ga
 have L2:=looks_findIn (M:=model prog w) X Z.gt
 have f3:=F.attr_ValueError.ga.bind (.ref a)
 have hx0:(expr&&onTheHeap (Value.builtin "BaseException.__getattribute__"))=false:=by cases expr <;> rfl
 have hx2:(Value.builtin "BaseException.__getattribute__" == Value.builtin "object.__getattribute__")=false:=by decide+kernel
 have hx1:(onTheHeap (Value.ref C)&&Value.builtin "BaseException.__getattribute__" == Value.builtin "object.__getattribute__")=false:=by rw[hx2];rfl
 repeat (any_goals (first |assumption |with_reducible refine L0.at ?_ |with_reducible refine L1.at ?_ |with_reducible refine L2.at ?_ |wp_step))
 refine codeAny_call_builtin F.attr_ValueError.ga.plain F.entry_bexc_ga (xy Z X I (xx Z X I ?_))
 repeat (any_goals (first |assumption |wp_step))
theorem zo{prog:Program}{w:World}{A:Around}{E:Value→Shared→Prop}{Q:Option Value→Shared→Prop}{s:Shared}(Z:ExCls K C)(X:K.In s.heap)(I:gG a C s.heap)(hq:Q (some (.ref C)) {s with toks:=s.toks+1}):
  wpAny (model prog w) A (getAttr? (.ref a) "__class__") Q E s:=by
 obtain⟨hh,g,dr,t,os⟩:=s
 unfold getAttr?
 repeat (any_goals (first |assumption |with_reducible apply En (s:=⟨hh,g,dr,t+1,os⟩) Z X I |wp_step))
theorem zp(Z:ExCls K C):KitX K (.ref a) (.ref C) (gG a C) where
 ty:=fun _ _ _ I=>ms I
 it:=fun _ _ X _=>by
  obtain⟨cdD,hcD⟩:=Z.cls
  unfold clsIn at hcD
  split at hcD
  ·rename_i c' d' cd' sl' ho
   intro A' Q' E' s' k q
   unfold isType loadHead
   exact wpAny_bind (wpAny_loadPart (k _ _ (X _ _ ho)) (wpAny_pure q))
  ·cases hcD
 ne:=fun h tp dd its n sl X htp=>by
  obtain⟨cdD,hcD⟩:=Z.cls
  refine Bool.eq_false_iff.mpr fun q=>?_
  have e:C=tp:=Value.ref.inj (beq_iff_eq.mp q)
  subst e
  unfold clsIn at hcD
  split at hcD
  ·rename_i c' d' cd' sl' ho
   have z:=(X _ _ ho).symm.trans htp
   cases z
  ·cases hcD
 ca:=fun X I k=>zo Z X I k
end
end PL
namespace PL
open PySem PySem.Spec PyProof.Rows L2 Nh
def Ctx0(e:Addr)(h:Heap):Prop:=∃o vs,h.get? e=some o∧o.data=.fields vs∧vs[2]? =some .none
def K2(f:Obj→Obj):Prop:=∀o vs,o.data=.fields vs→∃ws,(f o).data=.fields ws∧ws[2]? =vs[2]?
def Tm{α:Type}:Sem α→Prop
 |.pure _=>True
 |.raise _=>True
 |.unsupported _=>True
 |.rule _ k=>Tm (k ())
 |.at _ k=>Tm (k ())
 |.load _ _ k=>∀o,Tm (k o)
 |.update _ _ f k=>K2 f∧Tm (k ())
 |.loadIfAlive _ k=>∀o,Tm (k o)
 |.point _ k=>Tm (k ())
 |.alloc _ k=>∀a,Tm (k a)
 |.fresh k=>∀t,Tm (k t)
 |.handled _ k=>∀x,Tm (k x)
 |.stack k=>∀x,Tm (k x)
 |_=>False
theorem Tm.bind{α β:Type}{k:α→Sem β}(hk:∀a,Tm (k a)):∀{t:Sem α},Tm t→Tm (t >>= k)
 |.pure a,_=>hk a
 |.raise _,_=>trivial
 |.unsupported _,_=>trivial
 |.rule _ f,h=>Tm.bind hk (t:=f ()) h
 |.at _ f,h=>Tm.bind hk (t:=f ()) h
 |.load _ _ f,h=>fun o=>Tm.bind hk (t:=f o) (h o)
 |.update _ _ g f,h=>⟨h.1,Tm.bind hk (t:=f ()) h.2⟩
 |.loadIfAlive _ f,h=>fun o=>Tm.bind hk (t:=f o) (h o)
 |.point _ f,h=>Tm.bind hk (t:=f ()) h
 |.alloc _ f,h=>fun a=>Tm.bind hk (t:=f a) (h a)
 |.fresh f,h=>fun a=>Tm.bind hk (t:=f a) (h a)
 |.handled _ f,h=>fun a=>Tm.bind hk (t:=f a) (h a)
 |.stack f,h=>fun a=>Tm.bind hk (t:=f a) (h a)
 |.finish _,h=>h.elim
 |.register _ _,h=>h.elim
 |.ask _,h=>h.elim
 |.choose _ _ _,h=>h.elim
 |.os _ _ _,h=>h.elim
 |.call _ _ _ _ _,h=>h.elim
 |.newGen _ _,h=>h.elim
 |.genState _ _,h=>h.elim
 |.resume _ _ _ _,h=>h.elim
 |.yield _ _ _ _,h=>h.elim
 |.fork _ _,h=>h.elim
 |.thread _,h=>h.elim
 |.await _ _ _ _ _,h=>h.elim
theorem Ctx0.upd{e a:Addr}{h:Heap}{f:Obj→Obj}(x:Ctx0 e h)(k:K2 f):Ctx0 e (h.update a f):=by
 obtain⟨o,vs,ho,hd,h2⟩:=x
 by_cases q:a=e
 ·subst q
  obtain⟨ws,hw,e2⟩:=k o vs hd
  exact⟨_,ws,Heap.get?_update_self f ho (Obj.isFreed_of_fields hw),hw,e2.trans h2⟩
 ·exact⟨o,vs,(AL _ _ q).trans ho,hd,h2⟩
theorem jF{α:Type}{M:Model}{Γ:PySem.Ctx}{Q:α→Pos→Shared→Prop}{E:Value→Pos→Shared→Prop}{e:Addr}:∀{t:Sem α} {p:Pos} {s:Shared},Tm t→Ctx0 e s.heap→Sem.wp M Γ t Q E p s→Sem.wp M Γ t (fun a p s'=>Q a p s'∧Ctx0 e s'.heap) (fun x p s'=>E x p s'∧Ctx0 e s'.heap) p s
 |.pure a,p,s,_,c,h=>by rw[Sem.wp]at h ⊢;exact⟨h,c⟩
 |.raise _,p,s,_,c,h=>by rw[Sem.wp]at h ⊢;exact⟨h,c⟩
 |.unsupported _,p,s,_,c,h=>by rw[Sem.wp]at h;exact h.elim
 |.rule _ f,p,s,t,c,h=>by rw[Sem.wp]at h ⊢;exact jF (t:=f ()) t c h
 |.at _ f,p,s,t,c,h=>by rw[Sem.wp]at h ⊢;exact jF (t:=f ()) t c h
 |.load _ _ f,p,s,t,c,h=>by rw[Sem.wp]at h ⊢;obtain⟨o,ho,h⟩:=h;exact⟨o,ho,jF (t:=f o) (t o) c h⟩
 |.update _ _ g f,p,s,t,c,h=>by rw[Sem.wp]at h ⊢;exact⟨h.1,jF (t:=f ()) t.2 (c.upd t.1) h.2⟩
 |.loadIfAlive _ f,p,s,t,c,h=>by rw[Sem.wp]at h ⊢;exact jF (t:=f _) (t _) c h
 |.point _ f,p,s,t,c,h=>by rw[Sem.wp]at h ⊢;exact jF (t:=f ()) t c h
 |.alloc _ f,p,s,t,c,h=>by rw[Sem.wp]at h ⊢;exact jF (t:=f _) (t _) (let ⟨o,vs,ho,r⟩:=c;⟨o,vs,gw _ ho,r⟩) h
 |.fresh f,p,s,t,c,h=>by rw[Sem.wp]at h ⊢;exact jF (t:=f _) (t _) c h
 |.handled _ f,p,s,t,c,h=>by rw[Sem.wp]at h ⊢;exact jF (t:=f _) (t _) c h
 |.stack f,p,s,t,c,h=>by rw[Sem.wp]at h ⊢;exact jF (t:=f _) (t _) c h
 |.finish _,_,_,h,_,_=>h.elim
 |.register _ _,_,_,h,_,_=>h.elim
 |.ask _,_,_,h,_,_=>h.elim
 |.choose _ _ _,_,_,h,_,_=>h.elim
 |.os _ _ _,_,_,h,_,_=>h.elim
 |.call _ _ _ _ _,_,_,h,_,_=>h.elim
 |.newGen _ _,_,_,h,_,_=>h.elim
 |.genState _ _,_,_,h,_,_=>h.elim
 |.resume _ _ _ _,_,_,h,_,_=>h.elim
 |.yield _ _ _ _,_,_,h,_,_=>h.elim
 |.fork _ _,_,_,h,_,_=>h.elim
 |.thread _,_,_,h,_,_=>h.elim
 |.await _ _ _ _ _,_,_,h,_,_=>h.elim
theorem zq{α:Type}{M:Model}{A:Around}{Q:α→Shared→Prop}{E:Value→Shared→Prop}{e:Addr}{t:Sem α}{s:Shared}(T:Tm t)(c:Ctx0 e s.heap)(h:wpAny M A t Q E s):wpAny M A t (fun a s'=>Q a s'∧Ctx0 e s'.heap) (fun x s'=>E x s'∧Ctx0 e s'.heap) s:=fun Γ p hΓ=>jF T c (h Γ p hΓ)
theorem xz(v:Value):Tm (fieldsOf v):=by
 unfold fieldsOf
 split
 ·refine Tm.bind (fun o=>?_) (fun o=>trivial)
  split <;> trivial
 ·trivial
theorem lE(v:Value)(i:Nat):Tm (field v i):=by
 unfold field
 refine Tm.bind (fun vs=>?_) (xz v)
 split <;> trivial
theorem u7{i:Nat}{x:Value}(h:i≠2):K2 (Obj.mapFields (·.setIfInBounds i x)):=fun o vs hd=>⟨_,Obj.data_mapFields hd _,by rw[Array.getElem?_setIfInBounds_ne h]⟩
theorem u8(v:Value){i:Nat}(x:Value)(h:i≠2):Tm (setField v i x):=by
 unfold setField
 split
 ·unfold updateField
  refine Tm.bind (fun o=>?_) (fun o=>trivial)
  split
  ·split
   ·exact⟨u7 h,trivial⟩
   ·trivial
  ·trivial
 ·trivial
theorem xA(env:Env)(outer:List Env):Tm (behindIsImport env outer):=by
 unfold behindIsImport
 split
 ·trivial
 ·split
  ·trivial
  ·refine Tm.bind (fun a=>?_) (lE _ _)
   trivial
theorem zr:Tm underTheClaimsCaller:=by
 unfold underTheClaimsCaller
 refine Tm.bind (fun a=>?_) (fun a=>?_)
 ·trivial
 ·trivial
theorem BS(env:Env)(b:Bool)(outer:List Env):Tm (keptBack env b outer):=by
 cases outer with
 |nil=>
  show Tm (if _ then _ else _)
  by_cases h:(env.scope.isGenerator||env.scope.isCoroutine)=true
  ·rw[if_pos h];trivial
  ·rw[if_neg h]
   refine Tm.bind (fun a=>?_) zr
   trivial
 |cons c r=>trivial
theorem tw:∀l:List Env,Tm (readyFrames l)
 |[]=>trivial
 |env::outer=>by
  unfold readyFrames
  split
  ·refine Tm.bind (fun o=>?_) (fun o=>?_)
   ·split
    ·trivial
    ·refine Tm.bind (fun _=>?_) (xA _ _)
     refine Tm.bind (fun _=>?_) (BS _ _ _)
     refine Tm.bind (fun _=>tw outer) ?_
     exact⟨fun o vs hd=>⟨vs,hd,rfl⟩,trivial⟩
   ·trivial
  ·trivial
theorem u9(env:Env):Tm (PySem.frameOf env):=by
 unfold PySem.frameOf
 refine Tm.bind (fun l=>?_) ?_
 ·refine Tm.bind (fun o=>?_) ?_
  ·split <;> trivial
  ·generalize List.dropWhile _ _=l
   cases l with
   |nil=>trivial
   |cons e r=>
    refine Tm.bind (fun _=>?_) (tw _)
    trivial
 ·refine Tm.bind (fun a=>?_) (fun a=>?_)
  ·trivial
  ·trivial
theorem zt(f:Addr)(b:Bool):Tm (entryPlaceOf f b):=by
 unfold entryPlaceOf
 refine Tm.bind (fun l=>?_) (fun _=>?_)
 ·split <;> trivial
 ·trivial
theorem Eo(ty:String)(vs:List Value):Tm (newFields ty vs):=by
 show Tm (if _ then _ else _)
 split
 ·trivial
 ·refine Tm.bind (fun _=>?_) (fun _=>?_)
  ·trivial
  ·trivial
theorem rD(e:Value)(env:Env):Tm (noteFrame e env):=by
 have last:∀(hd:Value) (f:Addr),Tm (do setField e 1 (←EntryCells.newEntry hd (←PySem.frameOf env) .none (rawInt f) .none (←entryPlaceOf f (hd !=.none)))):=fun hd f=>by
  refine Tm.bind (fun fr=>?_) (u9 _)
  refine Tm.bind (fun pl=>?_) (zt _ _)
  refine Tm.bind (fun en=>?_) (Eo _ _)
  exact u8 _ _ (by decide)
 unfold noteFrame
 split
 ·refine Tm.bind (fun hd=>?_) (lE _ _)
  split
  ·refine Tm.bind (fun w=>?_) (lE _ _)
   split
   ·trivial
   ·refine Tm.bind (fun _=>last _ _) (u8 _ _ (by decide))
  ·exact last _ _
 ·trivial
theorem mv(e:Value):Tm (setFlight e none):=by
 unfold setFlight
 refine Tm.bind (fun tb=>?_) (lE _ _)
 split
 ·exact u8 _ _ (by decide)
 ·trivial
theorem oI(env:Env)(e:Value):Tm (leaving env e):=by
 unfold leaving
 exact Tm.bind (fun _=>mv e) (rD e env)
def FlyC(base:Heap)(l:List Env)(e:Addr)(cls a0:Value)(h:Heap):Prop:=base.StaysIn h∧base.get? e=none∧h.FunFrames base l∧h.TracedW base e cls a0∧Ctx0 e h
def HeldC(base:Heap)(l:List Env)(e:Addr)(cls a0:Value)(L:Addr)(h:Heap):Prop:=base.StaysIn h∧base.get? e=none∧h.FunFrames base l∧h.TracedAtW base e cls a0 (rawInt L)∧Ctx0 e h
section
variable {M:Model} {A:Around} {E:Value→Shared→Prop} {s:Shared} {base:Heap} {env:Env} {outer l:List Env} {L e:Addr} {cls a0:Value} {Q:Unit→Shared→Prop} {h:Heap}
theorem FlyC.to(x:FlyC base l e cls a0 h):Heap.FlyingW base l e cls a0 h:=⟨x.1,x.2.1,x.2.2.1,x.2.2.2.1⟩
theorem FlyC.of(x:Heap.FlyingW base l e cls a0 h)(c:Ctx0 e h):FlyC base l e cls a0 h:=⟨x.1,x.2.1,x.2.2.1,x.2.2.2,c⟩
theorem HeldC.to(x:HeldC base l e cls a0 L h):Heap.HeldW base l e cls a0 L h:=⟨x.1,x.2.1,x.2.2.1,x.2.2.2.1⟩
theorem HeldC.of(x:Heap.HeldW base l e cls a0 L h)(c:Ctx0 e h):HeldC base l e cls a0 L h:=⟨x.1,x.2.1,x.2.2.1,x.2.2.2,c⟩
theorem FlyC.there(x:FlyC base l e cls a0 h):∃ob,h.get? e=some ob∧ob.cls=cls:=x.to.there
theorem FlyC.first(x:FlyC base l e cls a0 h):∃oe vs,h.get? e=some oe∧oe.cls=cls∧oe.data=.fields vs∧vs[0]? =some a0:=x.to.first
theorem HeldC.there(x:HeldC base l e cls a0 L h):∃ob,h.get? e=some ob∧ob.cls=cls:=x.to.there
theorem qj{t:Sem Unit}{P:Heap→Prop}(T:Tm t)(c:Ctx0 e s.heap)(k:∀{Q:Unit→Shared→Prop},(∀h',P h'→Q () {s with heap:=h'})→wpAny M A t Q E s)(hQ:∀h',P h'→Ctx0 e h'→Q () {s with heap:=h'}):wpAny M A t Q E s:=
 wpAny_mono (zq T c (k (Q:=fun _ s'=>∃h',P h'∧s'={s with heap:=h'}) fun h' p=>⟨h',p,rfl⟩)) (fun _ s' ⟨⟨h',p,z⟩,c'⟩=>by subst z;exact hQ h' p c') fun _ _ z=>z.1
theorem oJ(hfr:A.frames=some (env::outer))(hf:env.frame=some L)(hfl:FlyC base (env::outer) e cls a0 s.heap)(hQ:∀h',FlyC base outer e cls a0 h'→s.heap.UpToSlots h'→Q () {s with heap:=h'}):wpAny M A (leaving env (.ref e)) Q E s:=
 qj (P:=fun h'=>Heap.FlyingW base outer e cls a0 h'∧s.heap.UpToSlots h') (oI _ _) hfl.2.2.2.2 (fun k=>wpAny_leaves_onW hfr hf hfl.to fun h' a b=>k h' ⟨a,b⟩) fun h' p c=>hQ h' (.of p.1 c) p.2
theorem mw(hfr:A.frames=some (env::outer))(hf:env.frame=some L)(hfl:FlyC base (env::outer) e cls a0 s.heap)(hQ:∀h',HeldC base (env::outer) e cls a0 L h'→s.heap.UpToSlots h'→Q () {s with heap:=h'}):wpAny M A (noteFrame (.ref e) env) Q E s:=
 qj (P:=fun h'=>Heap.HeldW base (env::outer) e cls a0 L h'∧s.heap.UpToSlots h') (rD _ _) hfl.2.2.2.2 (fun k=>wpAny_looks_onW hfr hf hfl.to fun h' a b=>k h' ⟨a,b⟩) fun h' p c=>hQ h' (.of p.1 c) p.2
theorem zu(hh:HeldC base l e cls a0 L s.heap)(hQ:∀h',FlyC base l e cls a0 h'→s.heap.UpToSlots h'→Q () {s with heap:=h'}):wpAny M A (setFlight (.ref e) none) Q E s:=
 qj (P:=fun h'=>Heap.FlyingW base l e cls a0 h'∧s.heap.UpToSlots h') (mv _) hh.2.2.2.2 (fun k=>wpAny_landsW hh.to fun h' a b=>k h' ⟨a,b⟩) fun h' p c=>hQ h' (.of p.1 c) p.2
theorem rE(hh:FlyC base l e cls a0 s.heap)(hQ:∀h',FlyC base l e cls a0 h'→s.heap.UpToSlots h'→Q () {s with heap:=h'}):wpAny M A (setFlight (.ref e) none) Q E s:=
 qj (P:=fun h'=>Heap.FlyingW base l e cls a0 h'∧s.heap.UpToSlots h') (mv _) hh.2.2.2.2 (fun k=>lands_againW hh.to fun h' a b=>k h' ⟨a,b⟩) fun h' p c=>hQ h' (.of p.1 c) p.2
theorem tz{args:List Value}{h':Heap}(hx:Heap.MadeExcOf h h' e cls args):Ctx0 e h':=let ⟨_,he,_⟩:=hx.there;⟨_,_,he,rfl,rfl⟩
theorem rF{args:List Value}(hfr:A.frames=some (env::outer))(hf:env.frame=some L)(hkb:base.StaysIn h)(hl:h.FunFrames base (env::outer))(hx:Heap.MadeExcOf h s.heap e cls args)
  (hQ:∀h' t,FlyC base outer e cls (.ref t) h'→h'.TupAt t args→base.get? t=none→s.heap.UpToSlots h'→Q () {s with heap:=h'}):wpAny M A (leaving env (.ref e)) Q E s:=
 qj (P:=fun h'=>∃t,Heap.FlyingW base outer e cls (.ref t) h'∧h'.TupAt t args∧base.get? t=none∧s.heap.UpToSlots h') (oI _ _) (tz hx) (fun k=>wpAny_leaves_madeW hfr hf hkb hl hx fun h' t a b c d=>k h' ⟨t,a,b,c,d⟩) fun h' ⟨t,a,b,c,d⟩ z=>hQ h' t (.of a z) b c d
end
end PL
namespace PL
open PySem PySem.Spec PyProof.Rows L2 Nh
structure UnB (fs:List Addr) (H H':Hp) (h B h':Heap):Prop where
 keep:∀b o,h.get? b=some o→H b=none→b∉fs→B.get? b=some o
 slot:∀b o,h.get? b=some o→H b=none→b∈fs→∃sl,h'.get? b=some {o with slots:=sl}
 free:∀b o,h.get? b=some o→H b=none→H' b=none
 there:∀b o,h.get? b=some o→b∉fs→∃o',B.get? b=some o'
 tups:∀b xs,H b=some (.tup xs)→H' b=some (.tup xs)
 frzs:∀b o u,H b=some (.frz o u)→H' b=some (.frz o u)
 tbls:∀b ps,H b=some (.tbl ps)→H' b=some (.tbl ps)
theorem UnB.un{fs:List Addr}{H H':Hp}{h B h':Heap}(u:UnB fs H H' h B h')(st:B.StaysIn h')(hf:∀b∈fs,H b=none):Un fs [] H H' h h':=
 ⟨fun b o e n hb _=>st b o (u.keep b o e n hb),fun b o e n hb _=>u.slot b o e n hb,fun b o e n _=>u.free b o e n,fun b o e _=>by
  by_cases hb:b∈fs
  ·obtain⟨sl,z⟩:=u.slot b o e (hf b hb) hb
   exact⟨_,z⟩
  ·obtain⟨o',z⟩:=u.there b o e hb
   exact⟨o',st b o' z⟩,u.tups,u.frzs,u.tbls⟩
theorem UnB.on{l:List Env}{H H':Hp}{h B h' h2:Heap}(u:UnB (jS l) H H' h B h')(ff:h'.FunFrames B l)(k:h'.UpToSlots h2):UnB (jS l) H H' h B h2:=
 ⟨u.keep,fun b o e n hb=>by
  obtain⟨sl,z⟩:=u.slot b o e n hb
  obtain⟨_,o',ho',hd⟩:=ff.mem hb
  rw[z]at ho'
  cases ho'
  obtain⟨sl2,z2⟩:=k b _ z hd
  exact⟨sl2,z2⟩,u.free,u.there,u.tups,u.frzs,u.tbls⟩
theorem UnB.out{X:Cx}{pins:List (Addr×Obj)}{σ:L2.St}{H H':Hp}{s:Shared}{B h':Heap}(I:Inv X pins σ H s)(hx:X.ex=[])(u:UnB (jS X.stack) H H' s.heap B h'):UnB X.fs X.H₀ H' X.s₀.heap B h':=by
 have nx:∀b:Addr,b∉X.ex:=fun b z=>by rw[hx]at z;cases z
 have ne:∀b o,X.s₀.heap.get? b=some o→b≠X.env.locals:=fun b o e=>gI (kj (gE e) I.ok.above)
 have nf:∀b o,X.s₀.heap.get? b=some o→b∉X.fs→b∉jS X.stack:=fun b o e hb z=>(Zal.mp (I.stkSub b z)).elim (ne b o e) hb
 refine⟨fun b o e n hb=>u.keep b o (I.base.keep b o e n hb (nx b)) (I.base.free b o e n (nx b)) (nf b o e hb),fun b o e n hb=>?_,fun b o e n=>?_,fun b o e hb=>?_,fun b xs e=>u.tups b xs (I.base.tups b xs e),fun b o v e=>u.frzs b o v (I.base.frzs b o v e),fun b ps e=>u.tbls b ps (I.base.tbls b ps e)⟩
 ·obtain⟨sl,z⟩:=I.base.slot b o e n hb (nx b)
  have hb':b∈jS X.stack:=by
   rcases I.ok.stk with q |⟨q,hf⟩
   ·rw[q];exact hb
   ·rw[q];unfold jS;rw[List.filterMap_cons,hf];exact il _ hb
  obtain⟨sl2,z2⟩:=u.slot b _ z (I.base.free b o e n (nx b)) hb'
  exact⟨sl2,z2⟩
 ·obtain⟨o',z⟩:=I.base.there b o e (nx b)
  exact u.free b o' z (I.base.free b o e n (nx b))
 ·obtain⟨o',z⟩:=I.base.there b o e (nx b)
  exact u.there b o' z (nf b o e hb)
theorem tB{P:Program}{w:World}{H:Hp}{h:Heap}{a:Addr}{o:HO}(x:ObjOk P w H h a o):∃u,h.get? a=some u:=by
 cases o with
 |lst xs=>obtain⟨_,_,_,_,e⟩:=x;exact⟨_,e⟩
 |tup xs=>obtain⟨_,_,_,o,e,_⟩:=x;exact⟨_,e⟩
 |dK kvs=>obtain⟨_,_,_,_,o,_,_,e,_⟩:=x;exact⟨_,e⟩
 |dT kvs=>obtain⟨_,_,_,_,o,_,_,e,_⟩:=x;exact⟨_,e⟩
 |set S n=>obtain⟨o,_,_,_,e,_⟩:=x;exact⟨_,e⟩
 |ins C dx fs=>obtain⟨_,_,_,e,_⟩:=x;exact⟨_,e⟩
 |own y=>obtain⟨_,e⟩:=x;exact⟨_,e⟩
 |xd fs=>obtain⟨_,⟨_,_,_,e,_⟩,_⟩:=x;exact⟨_,e⟩
 |rng lo hi=>obtain⟨_,_,_,e⟩:=x;exact⟨_,e⟩
 |frz ob u=>obtain⟨e,_⟩:=x;exact⟨_,e⟩
 |tbl q=>obtain⟨_,e,_⟩:=x;exact⟨_,e⟩
 |met f y=>exact⟨_,(show h.get? a=some _ from x)⟩
 |ext φ=>obtain⟨_,⟨_,e⟩,_⟩:=x;exact⟨_,e⟩
def C_(P:Program)(w:World):wX:=fun outer H s E e s'=>∃H' ea C a0 B,e=.ref ea∧E (.ref C) none H'∧s'.os=s.os∧AllBare s'.gens∧FlyC B outer ea (.ref C) a0 s'.heap∧HOk P w H' B∧UnB (jS outer) H H' s.heap B s'.heap
def zv(X:Cx)(C:Addr)(pins:List (Addr×Obj))(σ:L2.St)(H:Hp):Prop:=∀s h' ea vs,Inv X pins σ H s→Heap.MadeExcOf s.heap h' ea (.ref C) vs→X.xe (.ref ea) {s with heap:=h'}
def zw(X:Cx)(C:Addr)(pins:List (Addr×Obj))(σ:L2.St)(H':Hp):Prop:=∀H s ea s' a0 B,Inv X pins σ H s→s'.os=s.os→AllBare s'.gens→FlyC B X.stack ea (.ref C) a0 s'.heap→HOk X.prog X.w H' B→UnB (jS X.stack) H H' s.heap B s'.heap→X.xe (.ref ea) s'
def tD(X:Cx)(C:Addr)(pins:List (Addr×Obj))(σ:L2.St)(H':Hp):Prop:=∀H s ea s' a0 B,Inv X pins σ H s→s'.os=s.os→AllBare s'.gens→HeldC B X.stack ea (.ref C) a0 X.env.locals s'.heap→HOk X.prog X.w H' B→UnB (jS X.stack) H H' s.heap B s'.heap→X.xe (.ref ea) s'
theorem tE{M:Model}{A:Around}{E:Value→Shared→Prop}{s:Shared}{base:Heap}{env:Env}{outer:List Env}{L e:Addr}{cls a0:Value}{Q:Unit→Shared→Prop}(hf:env.frame=some L)(hh:HeldC base (env::outer) e cls a0 L s.heap)
  (hQ:∀h',FlyC base outer e cls a0 h'→s.heap.UpToSlots h'→Q () {s with heap:=h'}):wpAny M A (leaving env (.ref e)) Q E s:=by
 unfold leaving
 refine wpAny_bind (wpAny_noteFrame_againW hf hh.2.2.2.1 ?_)
 refine zu hh fun h' hfl k=>?_
 obtain⟨k1,k2,⟨_,_,k3⟩,k4⟩:=hfl
 exact hQ h' ⟨k1,k2,k3,k4⟩ k
section
variable {P:Program} {w:World} {K:Frag} {mg:Str→Option Value} {base:Heap} {N:List Str} {qual:Str} {scope:Scope} {f:Addr} {cd:Value} {A:Around} {outer:List Env} {s:Shared} {H H':Hp} {E:XK} {C:Addr} {pins:List (Addr×Obj)} {σ:L2.St}
theorem BT(hE:E (.ref C) none H'):zv (gY (C_ P w) P w K mg base N qual scope f cd A outer s H E) C pins σ H':=by
 intro s1 h' ea vs I hx
 show wpAny (model P w) _ (leaving _ (.ref ea)) _ _ _
 have st:=I.stack
 have hin:∀env∈(gY (C_ P w) P w K mg base N qual scope f cd A outer s H E).stack,∀b,env.frame=some b→b∈jS (gY (C_ P w) P w K mg base N qual scope f cd A outer s H E).stack:=fun env he b hb=>List.mem_filterMap.mpr ⟨env,he,hb⟩
 refine rF (base:=hideAll s1.heap (jS (gY (C_ P w) P w K mg base N qual scope f cd A outer s H E).stack)) (h:=s1.heap) I.ok.frames rfl (fun b o q=>of_hideAll _ q) (PySem.W.funFrames_hide st hin) hx fun h2 t x1 x2 x3 x4=>?_
 refine⟨H',ea,C,_,_,rfl,hE,I.os,I.bare,x1,fun a o e=>?_,?_⟩
 ·refine(I.hok a o e).stay (fun b u hb q=>hideAll_get _ q fun z=>?_) (fun _ q=>q) fun _ _ q=>q
  have n:=I.stkFree b z
  rcases hb with rfl |hb
  ·rw[n]at e;cases e
  ·rw[n]at hb;cases hb
 ·refine UnB.out I rfl ⟨fun b o e n hb=>hideAll_get _ e hb,fun b o e n hb=>?_,fun _ _ _ n=>n,fun b o e hb=>⟨o,hideAll_get _ e hb⟩,fun _ _ e=>e,fun _ _ _ e=>e,fun _ _ e=>e⟩
  obtain⟨_,o',ho',hd⟩:=st.mem hb
  rw[e]at ho'
  cases ho'
  exact x4 b o (hx.keeps b o e) hd
theorem Ep(hE:E (.ref C) none H'):zw (gY (C_ P w) P w K mg base N qual scope f cd A outer s H E) C pins σ H':=by
 intro H1 s1 ea s' a0 B I os bare fl hok u
 show wpAny (model P w) _ (leaving _ (.ref ea)) _ _ _
 refine oJ I.ok.frames rfl fl fun h2 x1 x2=>?_
 exact⟨H',ea,C,a0,B,rfl,hE,os.trans I.os,bare,x1,hok,UnB.out I rfl (u.on fl.2.2.1 x2)⟩
theorem BU(hE:E (.ref C) none H'):tD (gY (C_ P w) P w K mg base N qual scope f cd A outer s H E) C pins σ H':=by
 intro H1 s1 ea s' a0 B I os bare fl hok u
 show wpAny (model P w) _ (leaving _ (.ref ea)) _ _ _
 refine tE rfl fl fun h2 x1 x2=>?_
 exact⟨H',ea,C,a0,B,rfl,hE,os.trans I.os,bare,x1,hok,UnB.out I rfl (u.on fl.2.2.1 x2)⟩
end
abbrev iD:=List Sl→Option (Str×List Sl)
def BV(X:Cx)(mk al:Bool)(body:List Stmt)(r:iD):Prop:=∀pins s σ H B E n E',Inv X pins σ H s→Frm X.K B σ H E [] []→r E=some (n,E')→
 (∀pins',(al=false→pins'=pins)→∀σ' C H',nsIn X.K mainGlobals n=some (some (.ref C))→Frm X.K B σ' H' E' [] []→(mk=true→zv X C pins' σ' H')∧zw X C pins' σ' H'∧(al=true→tD X C pins' σ' H'))→wpAny (model X.prog X.w) X.A (execs body X.env) (fun _ _=>False) X.xe s
def RX(X:Cx)(mk al:Bool)(st:Stmt)(r:iD):Prop:=∀pins s σ H B E n E',Inv X pins σ H s→Frm X.K B σ H E [] []→r E=some (n,E')→
 (∀pins',(al=false→pins'=pins)→∀σ' C H',nsIn X.K mainGlobals n=some (some (.ref C))→Frm X.K B σ' H' E' [] []→(mk=true→zv X C pins' σ' H')∧zw X C pins' σ' H'∧(al=true→tD X C pins' σ' H'))→wpAny (model X.prog X.w) X.A (exec st X.env) (fun _ _=>False) X.xe s
def tF(g:dO)(r:iD):iD:=fun E=>match g E with
 |some (E',.nx)=>r E'
 |_=>none
def AO(t:kG)(r:iD):iD:=fun E=>match t E with
 |some (true,E')=>r E'
 |_=>none
def Er(r q:iD):iD:=fun E=>match r E with
 |some x=>some x
 |none=>q E
def tH(n:Str):iD:=fun E=>some (n,E)
section
variable {X:Cx} {mk al:Bool} {st:Stmt} {eN a b:List Stmt} {g:dO} {r:iD} {c:Expr} {m:Bool} {t:kG} {pos:Pos}
theorem eL(h:RX X mk al st r):BV X mk al (st::eN) r:=fun pins s σ H B E n E' I fr e k=>
 wpAny_execs_cons (wpAny_mono (h pins s σ H B E n E' I fr e k) (fun _ _ z=>z.elim) fun _ _ z=>z)
theorem rG(h1:SX X.nox st g)(h2:BV X mk al eN r):BV X mk al (st::eN) (tF g r):=fun pins s σ H B E n E' I fr e k=>by
 unfold tF at e
 split at e
 ·rename_i E1 eg
  have q:=h1 pins s σ H {nx:=fun σ' H'=>Frm X.K B σ' H' E1 [] [],bk:=fun _ _=>False,ct:=fun _ _=>False,rt:=fun _ _=>False} (I.wish _) ⟨B,E,[],[],E1,.nx,fr,rfl,eg,fun σ' H' f=>f⟩
  refine wpAny_execs_cons (wpAny_mono q (fun f s1 z=>?_) fun _ _ z=>z.elim)
  cases f with
  |next=>obtain⟨σ',H',I',fr'⟩:=z;exact h2 pins s1 σ' H' B E1 n E' I'.unwish fr' e k
  |brk=>obtain⟨_,_,_,z⟩:=z;exact z.elim
  |cont=>obtain⟨_,_,_,z⟩:=z;exact z.elim
  |ret u=>obtain⟨_,_,_,_,_,z⟩:=z;exact z.elim
 ·cases e
theorem zz(hc:TX X.nox c m t)(h:BV X mk al a r):RX X mk al (.If c a b pos) (AO t r):=fun pins s σ H B E n E' I fr e k=>by
 unfold AO at e
 split at e
 ·rename_i E1 et
  have q:=hc pins s σ H (fun bb H1=>bb=true∧Frm X.K B σ H1 E1 [] []) (I.wish _) ⟨B,E,[],[],true,E1,fr,fun _=>Calm.nil rfl,et,fun H1 f=>⟨rfl,f⟩⟩
  refine wpAny_If (wpAny_mono q (fun bb s1 z=>?_) fun _ _ z=>z.elim)
  obtain⟨H1,I1,rfl,fr1⟩:=z
  exact h pins s1 σ H1 B E1 n E' I1.unwish fr1 e k
 ·cases e
theorem Da{q:iD}(h1:BV X mk al a r)(h2:BV X mk al a q):BV X mk al a (Er r q):=fun pins s σ H B E n E' I fr e k=>by
 unfold Er at e
 split at e
 ·rename_i x ex
  cases e
  exact h1 pins s σ H B E n E' I fr ex k
 ·exact h2 pins s σ H B E n E' I fr e k
end
end PL
namespace PL
open PySem PySem.Spec PyProof.Rows L2 Nh
abbrev G0:List Value:=[.type "ValueError",.type "Exception",.type "BaseException",.type "object"]
structure XC (K:Frag) (mg:Str→Option Value) (x:Str) (C:Addr):Prop where
 ns:nsIn K mainGlobals x=some (some (.ref C))
 mg:mg x=some (.ref C)
 ex:excIn K C G0 "ValueError.__new__"=true
 cls:ExCls K C
theorem Es{K:Frag}{h:Heap}{mg:Str→Option Value}{x:Str}{C:Addr}{bmB:List Value}{newId:String}(X:K.In h)(m:mg x=some (.ref C))(q:excIn K C bmB newId=true):OwnCls x C bmB newId mg h:=by
 refine⟨m,?_⟩
 unfold excIn at q
 split at q
 ·rename_i dd cd sl ho
  split at q
  ·rename_i C' bm k0 k1 k2 k3 n k5 hm hs
   simp only[sy,beq_iff_eq,Bool.not_eq_true']at q
   obtain⟨⟨⟨⟨⟨rfl,rfl⟩,hdel⟩,ht⟩,hok⟩,hni⟩:=q
   obtain⟨nm,bs,mro,ns,qn,hd,sn,sub,ab,col,del⟩:=cd
   dsimp only at hm hdel hok hni
   subst hm hdel
   have hsl:sl=#[k0,k1,k2,k3,some (.builtin n),k5]:=by
    obtain⟨l⟩:=sl
    simp only at hs
    rw[hs]
   subst hsl
   exact⟨bm,ns,nm,qn,bs,hd,sn,sub,ab,col,dd,k0,k1,k2,k3,k5,_,X _ _ ho,.of_isNs (PySem.W.isNs_of_in X hok),PySem.W.nsMap_none_of_in X hok hni,PySem.W.tail_of_in X ht⟩
  ·cases q
 ·cases q
section
variable {X:Cx} {mk al:Bool} {x:Str} {C:Addr} {np p cpos pos:Pos}
theorem oK {tx:Str} {j:Nat} (hcalm:X.calm=true) (hg:Gl X x) (Z:XC X.K X.mg x C) (hd:(x == ("__debug__":Str))=false:=by decide)
  (he:starEach [.Constant (.str tx) j p] X.env=[(false,eval (.Constant (.str tx) j p) X.env)]:=by rfl):
  RX X true al (.Raise (some (.Call (.Name x np) [.Constant (.str tx) j p] [] cpos)) none pos) (tH x):=fun pins s σ H B E n E' I fr e k=>by
 cases e
 obtain⟨tl,N,nm,q,bs,hdct,sn,sub,ab,col,dd,k0,k1,k2,k3,k5,mN,hC,hN,hni,T⟩:=(Es I.ok.mod.kin Z.mg Z.ex).obj
 refine wpAny_Raise_call_subT (C:=C) (nm:=nm) (q:=q) (N:=N) (bs:=bs) (bm:=tl) (hdct:=hdct) (sn:=sn) (sub:=sub) (ab:=ab) (col:=col) (dd:=dd) (k0:=k0) (k1:=k1) (k2:=k2) (k3:=k3) (k5:=k5)
  PySem.F.excBase_ValueError (mN:=mN) (T.hasType PySem.F.excBase_ValueError.hasBase) (I.ok.hd hcalm) (by rw[he];rfl) hni (ip I hg Z.mg ⟨rfl,?_⟩ hd)
 have q1:=eI (X:=X) (uD (x:=tx) (j:=j) (pos:=p)) gy he cpos pins s σ H (fun vs H1=>vs=[.str tx]∧H1=H) I ⟨rfl,rfl⟩
 rw[he]at q1 ⊢
 refine Calls.evalArgs_plain (eG q1 fun vs s2 ⟨us,H2,I2,r,eu,eH⟩=>?_)
 subst eu eH
 have fin:=(k pins (fun _=>rfl) σ C H2 Z.ns fr).1 rfl
 exact⟨rfl,by rw[←r.length];exact Nat.le_of_ble_eq_true rfl,I2.bk _ _ hC,hN.keeps I2.bk,T.keeps I2.bk,fun h' ea hm=>fin s2 h' ea vs I2 hm⟩
end
def jk(K:Frag)(r:List PyData→Option Str):Sp:=fun vs H _ E=>∃ds n,r ds=some n∧RpA K H vs ds∧∀C H',nsIn K mainGlobals n=some (some (.ref C))→Same H H'→E (.ref C) none H'
structure OwnR (P:Program) (w:World) (K:Frag) (mg:Str→Option Value) (base:Heap) (k:Nat) (x:Str) (ps:List Str) (sp:Sp):Prop where
 ex:∃(f:Addr) (fd:FuncData),FnOk P w K mg base (C_ P w) k f fd ps sp∧Binds K fd ps []∧mg x=some (.ref f)∧keepIn K (.ref f)=true
def fE(r:List PyData→Option Str)(g:ln):iD:=fun E=>(g E).bind fun a=>(cJ a.2 a.1).bind fun ds=>(r ds).map fun n=>(n,a.2)
section
variable {X:Cx} {k:Nat} {x:Str} {ps:List Str} {r:List PyData→Option Str} {p pos cpos:Pos} {e:Expr} {es:List Expr} {m:Bool} {g:ln}
theorem j0 (D:OwnR X.prog X.w X.K X.mg X.base k x ps (jk X.K r)) (hr:Room k X.A) (hg:Gl X x) (ha:AX X.nox (e::es) m g) (hdb:(x == ("__debug__":Str))=false) (he:starEach (e::es) X.env=(false,eval e X.env)::starEach es X.env) (hpl:(backTo pos (starEach es X.env)).any (·.1)=false)
  {pins:List (Addr×Obj)} {s:Shared} {σ:L2.St} {H B:Hp} {E E':List Sl} {n:Str} (I:Inv X pins σ H s) (fr:Frm X.K B σ H E [] []) (ee:fE r g E=some (n,E')) (k:∀C H',nsIn X.K mainGlobals n=some (some (.ref C))→Frm X.K B σ H' E' [] []→zw X C pins σ H'):
  wpAny (model X.prog X.w) X.A (eval (.Call (.Name x p) (e::es) [] pos) X.env) (fun _ _=>False) X.xe s:=by
 obtain⟨f,fd,F,b,mx,kp⟩:=D.ex
 obtain⟨⟨rs,E1⟩,e1,ee⟩:=Za.mp ee
 obtain⟨ds,e2,ee⟩:=Za.mp ee
 obtain⟨n',e3,ee⟩:=Zad.mp ee
 cases ee
 refine wpAny_Call_Name_kw (ip I hg mx ?_ hdb)
 have q1:=ha pos pins s σ H (fun vs H1=>vs.length=rs.length∧Frm X.K B σ H1 E1 (vs.reverse++[]) (rs.reverse++[])) (I.wish _) ⟨B,E,[],[],rs,E1,fr,fun _=>Calm.nil rfl,e1,fun vs H1 hl f=>⟨hl,f⟩⟩
 refine callWith_K (h₀:=X.base) I.ok.mod.kin kp (wpAny_mono q1 (fun us s1 ⟨vs,H1,I1,rv,hl,F1,A1,fr1⟩=>⟨I1.kIn,?_⟩) fun _ _ z=>z.elim) he hpl
 have I1:=I1.unwish
 obtain⟨r1,A',fr2⟩:=fr1.looks hl e2
 have hlen:(us++[]).length=ps.length:=by
  rw[qJ,←rv.length]
  exact F.len vs H1 (fun _ _=>False) (fun _ _ _=>True) ⟨ds,n,e3,r1,fun _ _ _ _=>trivial⟩
 have bd:=b s1 us I1.kIn hlen
 rw[qJ]at bd
 refine wpAny_call (codeAny_mono (F.run X.A X.stack s1 H1 ⟨us,[]⟩ us vs (fun _ _=>False) (fun c _ H'=>∃C,c=.ref C∧nsIn X.K mainGlobals n=some (some (.ref C))∧Same H1 H') hr I1.env0 bd rv ⟨ds,n,e3,r1,fun C H' z g=>⟨C,rfl,z,g⟩⟩) fun rr s' hq=>?_)
 cases rr with
 |error er=>
  obtain⟨H',ea,C,a0,B',rfl,⟨C',eC,ns,g⟩,os,bare,fl,hok,u⟩:=hq
  cases eC
  exact k C H' ns ⟨_,_,fr2.grow g⟩ H1 s1 ea s' a0 B' I1 os bare fl hok u
 |ok fl=>
  cases fl with
  |ret u=>obtain⟨_,_,_,_,_,_,_,z⟩:=hq;exact z
  |next=>exact False.elim hq
  |brk=>exact False.elim hq
  |cont=>exact False.elim hq
theorem wf (D:OwnR X.prog X.w X.K X.mg X.base k x ps (jk X.K r)) (hr:Room k X.A) (hg:Gl X x) (ha:AX X.nox (e::es) m g) (hs:swapsWith (.Call (.Name x p) (e::es) [] cpos) none pos.line X.env=pure false:=by rfl) (hdb:(x == ("__debug__":Str))=false:=by decide) (he:starEach (e::es) X.env=(false,eval e X.env)::starEach es X.env:=by rfl) (hpl:(backTo cpos (starEach es X.env)).any (·.1)=false:=by rfl) {mk al:Bool}:
  RX X mk al (.Expr (.Call (.Name x p) (e::es) [] cpos) pos) (fE r g):=fun pins s σ H B E n E' I fr ee k=>
 wpAny_Expr_any (eG (j0 D hr hg ha hdb he hpl I fr ee fun C H' z f=>(k pins (fun _=>rfl) σ C H' z f).2.1) fun _ _ z=>z.elim) I.quiet hs
theorem Et {y:Str} {pos':Pos} (D:OwnR X.prog X.w X.K X.mg X.base k x ps (jk X.K r)) (hr:Room k X.A) (hg:Gl X x) (ha:AX X.nox (e::es) m g) (hs:swapsWith (.Call (.Name x p) (e::es) [] cpos) (some (.Name y pos')) pos.line X.env=pure false:=by rfl) (hdb:(x == ("__debug__":Str))=false:=by decide) (he:starEach (e::es) X.env=(false,eval e X.env)::starEach es X.env:=by rfl) (hpl:(backTo cpos (starEach es X.env)).any (·.1)=false:=by rfl) {mk al:Bool}:
  RX X mk al (.Assign [.Name y pos'] (.Call (.Name x p) (e::es) [] cpos) pos) (fE r g):=fun pins s σ H B E n E' I fr ee k=>
 wpAny_Assign_Name (eG (j0 D hr hg ha hdb he hpl I fr ee fun C H' z f=>(k pins (fun _=>rfl) σ C H' z f).2.1) fun _ _ z=>z.elim) hs
end
def u_(k n:Nat)(r:iD):List PyData→Option Str:=fun ds=>if ds.length=k then (r (aX n ds)).map (·.1)else none
theorem tI{P:Program}{w:World}{K:Frag}{mg:Str→Option Value}{base:Heap}{x:Str}{st:Stmt}{N ps:List Str}{k a n:Nat}{r:iD}{mk al:Bool}(D:Def K mg x st ps)(S:FnScope N ps (af st))(hpa:ps.length=a)(hNn:N.length=n)(hps:a≤n)
  (hbody:∀(f:Addr) (cdv:Value) (A:Around) (outer:List Env) (s:Shared) (H:Hp) (E:XK),Room k (A.deeper (PyProof.Rows.envOfC x (af st) s.heap.objs.size f cdv))→
   BV (gY (C_ P w) P w K mg base N x (af st) f cdv A outer s H E) mk al (aA st) r):OwnR P w K mg base (k+1) x ps (jk K (u_ a n r)):=by
 subst hpa hNn
 obtain⟨f,fd,F,mx,b⟩:=D.ex
 have kp:=F.kp
 obtain⟨oc,od,kV,doc,pm,an,cdv,ct,osl,rfl,lk,hcd⟩:=F.ex
 refine⟨f,_,yy lk hcd S (fun vs H Q E h=>?_) fun A outer s H vs Q E hr h=>?_,b,mx,kp⟩
 ·obtain⟨ds,n,e,rp,_⟩:=h
  unfold u_ at e
  split at e
  ·rename_i hl
   rw[rp.len];exact hl
  ·cases e
 obtain⟨ds,n,e,rp,q⟩:=h
 unfold u_ at e
 split at e
 ·rename_i hl
  obtain⟨⟨n',E'⟩,er,z⟩:=Zad.mp e
  cases z
  refine⟨fun D σ H'=>σ=eO N vs∧H'=H,fun pins s1 σ H1 D I z=>?_,rfl,rfl⟩
  obtain⟨rfl,rfl⟩:=z
  refine eG (hbody f cdv A outer s H1 E hr pins s1 _ H1 H1 (aX N.length ds) n' E' I ⟨H1,[],jX rp (by omega)⟩ er fun _ _ σ' C H' ns ⟨F',A',fr'⟩=>?_) fun _ _ z=>z.elim
  have hE:=q C H' ns (fr'.bf.trans fr'.fh)
  exact⟨fun _=>BT hE,Ep hE,fun _=>BU hE⟩
 ·cases e
end PL
namespace PL
open PySem PySem.Spec PyProof.Rows L2 Nh
abbrev Ho(X:Cx)(ea:Addr):Cx:={X with A:=X.A.mark (some (.ref ea)),calm:=false,xe:=fun _ _=>False}
abbrev hX(X:Cx)(ea:Addr)(oe:Obj)(C:Addr):Cx:={X with A:=X.A.mark (some (.ref ea)),calm:=false,xe:=fun _ _=>False,H₀:=upd X.H₀ ea (.frz oe (.ext (gG ea C)))}
structure EaNew (X:Cx) (ea:Addr):Prop where
 s0:X.s₀.heap.get? ea=none
 nt:∀xs,X.H₀ ea≠some (.tup xs)
 nf:∀o u,X.H₀ ea≠some (.frz o u)
 nb:∀q,X.H₀ ea≠some (.tbl q)
section
variable {X:Cx} {pins:List (Addr×Obj)} {σ:L2.St} {H:Hp} {s:Shared} {ea:Addr}
theorem zA(I:Inv X pins σ H s):Inv (Ho X ea) pins σ H s:=
 let ok:=I.ok
 ⟨⟨ok.mod,ok.kind,ok.glob,ok.blt,ok.above,ok.inj,ok.has,ok.cab,fun z=>(nomatch z),ok.frames,ok.stk,ok.exf,ok.bs,ok.bsz,ok.noex,ok.exfs,ok.funs,ok.frf,ok.tab⟩,I.os,I.bare,I.base,I.loc,I.cell,I.free,I.freeC,I.pin,I.hok,I.len⟩
theorem BW{oe:Obj}{C:Addr}(I:Inv X pins σ H s)(n:EaNew X ea)(hH:H ea=some (.frz oe (.ext (gG ea C)))):Inv (hX X ea oe C) pins σ H s:=by
 have ok:=I.ok
 have ne:∀b o,X.s₀.heap.get? b=some o→b≠ea:=fun b o e z=>by rw[z,n.s0]at e;cases e
 have up:∀b u,(upd X.H₀ ea (.frz oe (.ext (gG ea C)))) b=u→b≠ea→X.H₀ b=u:=fun b u e z=>by rw[aB z]at e;exact e
 refine⟨⟨ok.mod,ok.kind,ok.glob,ok.blt,ok.above,ok.inj,ok.has,ok.cab,fun z=>(nomatch z),ok.frames,ok.stk,ok.exf,fun b o e=>?_,ok.bsz,ok.noex,ok.exfs,ok.funs,fun b hb=>?_,fun b q e=>?_⟩,I.os,I.bare,⟨fun b o e h=>I.base.keep b o e (up b _ h (ne b o e)),fun b o e h=>I.base.slot b o e (up b _ h (ne b o e)),fun b o e h=>I.base.free b o e (up b _ h (ne b o e)),I.base.there,fun b xs e=>?_,fun b o u e=>?_,fun b q e=>?_⟩,I.loc,I.cell,I.free,I.freeC,I.pin,I.hok,I.len⟩
 ·obtain⟨e1,e2⟩:=ok.bs b o e
  exact⟨e1,(aB (ne b o e1)).trans e2⟩
 ·obtain⟨_,o,e1,_⟩:=ok.funs.mem hb
  exact(aB (ne b o e1)).trans (ok.frf b hb)
 ·refine(aB fun z=>?_).trans (ok.tab b q e)
  subst z
  exact n.nb q (ok.tab _ q e)
 ·by_cases z:b=ea
  ·subst z
   replace e:=upd_same.symm.trans e
   cases e
  ·exact I.base.tups b xs (up b _ e z)
 ·by_cases z:b=ea
  ·subst z
   replace e:=upd_same.symm.trans e
   cases e
   exact hH
  ·exact I.base.frzs b o u (up b _ e z)
 ·by_cases z:b=ea
  ·subst z
   replace e:=upd_same.symm.trans e
   cases e
  ·exact I.base.tbls b q (up b _ e z)
theorem zB{oe:Obj}{C:Addr}(I:Inv (hX X ea oe C) pins σ H s)(ok:X.Ok)(n:EaNew X ea):Inv X pins σ H s:=by
 have ne:∀b o,X.s₀.heap.get? b=some o→b≠ea:=fun b o e z=>by rw[z,n.s0]at e;cases e
 have dn:∀b u,X.H₀ b=u→b≠ea→(hX X ea oe C).H₀ b=u:=fun b u e z=>(aB z).trans e
 exact⟨ok,I.os,I.bare,⟨fun b o e h=>I.base.keep b o e (dn b _ h (ne b o e)),fun b o e h=>I.base.slot b o e (dn b _ h (ne b o e)),fun b o e h=>I.base.free b o e (dn b _ h (ne b o e)),I.base.there,fun b xs e=>I.base.tups b xs (dn b _ e fun z=>n.nt xs (z▸e)),fun b o u e=>I.base.frzs b o u (dn b _ e fun z=>n.nf o u (z▸e)),fun b q e=>I.base.tbls b q (dn b _ e fun z=>n.nb q (z▸e))⟩,I.loc,I.cell,I.free,I.freeC,I.pin,I.hok,I.len⟩
theorem xB{a:Addr}{o:HO}(I:Inv X pins σ H s)(hn:H a=none)(h0:X.s₀.heap.get? a=none)(hL:X.env.locals≠a)(hc:∀x c,X.env.cells.lookup x=some c→c≠a)(hp:∀p∈X.pn++pins,p.1≠a)(ok:ObjOk X.prog X.w (upd H a o) s.heap a o):Inv X pins σ (upd H a o) s:=by
 have ne:∀b u,H b=some u→b≠a:=fun b u e=>bB e hn
 refine⟨I.ok,I.os,I.bare,⟨I.base.keep,I.base.slot,fun b u e n hx=>?_,I.base.there,fun b xs e=>?_,fun b u v e=>?_,fun b q e=>?_⟩,I.loc,I.cell,?_,fun x c e=>?_,fun p q=>?_,fun b u e=>?_,I.len⟩
 ·rw[aB (fun z=>by rw[z,h0]at e;cases e)];exact I.base.free b u e n hx
 ·have z:=I.base.tups b xs e
  rw[aB (ne _ _ z)];exact z
 ·have z:=I.base.frzs b u v e
  rw[aB (ne _ _ z)];exact z
 ·have z:=I.base.tbls b q e
  rw[aB (ne _ _ z)];exact z
 ·rw[aB hL];exact I.free
 ·rw[aB (hc x c e)];exact I.freeC x c e
 ·obtain⟨e1,e2,e3⟩:=I.pin p q
  exact⟨e1,by rw[aB (hp p q)];exact e2,e3⟩
 ·by_cases hb:b=a
  ·subst hb;rw[upd_same]at e;cases e;exact ok
  ·rw[aB hb]at e
   refine(I.hok b u e).stay (fun c w' _ q=>q) (fun c q=>?_) fun c xs q=>?_
   ·rw[aB (ne _ _ q)];exact q
   ·rw[aB (ne _ _ q)];exact q
theorem zC{M:Model}{A:Around}{E:Value→Shared→Prop}{i:Nat}{x:Str}{pos:Pos}{Q:Unit→Shared→Prop}(I:Inv X pins σ H s)(hN:X.N.Nodup)(hi:X.N[i]? =some x)(hk:X.env.scope.names.lookup x=some .local)
  (h:∀s',Inv X pins (σ.set i none) H s'→Q () s'):wpAny M A (do bindName X.env x .none;unbindBehindTheSuite X.env x pos) Q E s:=by
 obtain⟨m,hn,hl⟩:=id I.loc
 have hcls:(X.env.scope.kind ==.class||(X.env.scope.kind ==.module&&X.env.locals != X.env.globals))=false:=by rw[I.ok.kind];rfl
 have hiσ:i < σ.length:=by rw[I.len];exact(Zba.mp hi).1
 have cne:=I.cne
 refine wpAny_nameGoes_keeps hk hn hcls fun h' v hn' hs=>?_
 obtain⟨oL,_,_,hoL,_⟩:=id hn
 refine h _ ⟨I.ok,I.os,I.bare,⟨fun b o e n hb hx=>?_,fun b o e n hb hx=>?_,I.base.free,fun b o e hx=>?_,I.base.tups,I.base.frzs,I.base.tbls⟩,⟨_,hn',fun j y v' e1 e2 e3=>?_⟩,fun y c e=>?_,I.free,I.freeC,fun p hp=>?_,fun b ob e=>?_,by simpa using I.len⟩
 ·exact(hs.2 b (gI (kj (gE e) I.ok.above))).trans (I.base.keep b o e n hb hx)
 ·obtain⟨sl,e1⟩:=I.base.slot b o e n hb hx
  exact⟨sl,(hs.2 b (gI (kj (gE e) I.ok.above))).trans e1⟩
 ·obtain⟨o',e1⟩:=I.base.there b o e hx
  exact⟨o',(hs.2 b (gI (kj (gE e) I.ok.above))).trans e1⟩
 ·by_cases hj:j=i
  ·subst hj
   rw[List.getElem?_set_self hiσ]at e2
   cases e2
  ·rw[List.getElem?_set_ne (Ne.symm hj)]at e2
   obtain⟨u',r',q⟩:=hl j y v' e1 e2 e3
   refine⟨u',r',?_⟩
   rcases q with⟨k,e⟩ |⟨k,c,e,z⟩
   ·refine .inl ⟨k,?_⟩
    have:y≠x:=fun e=>hj (nT hN e1 (e▸hi))
    simp[this,e]
   ·exact .inr ⟨k,c,e,z.sameBut hs (cne y c e)⟩
 ·obtain⟨w',z⟩:=I.cell y c e
  exact⟨w',z.sameBut hs (cne y c e)⟩
 ·obtain⟨e,n,ne,nf,d⟩:=I.pin p hp
  exact⟨(hs.2 p.1 ne).trans e,n,ne,nf,d⟩
 ·refine(I.hok b ob e).stay (fun c w' hc q=>(hs.2 c ?_).trans q) (fun _ q=>q) fun _ _ q=>q
  rintro rfl
  rcases hc with rfl |hc
  ·rw[I.free]at e;cases e
  ·rw[I.free]at hc;cases hc
end
abbrev Eu(n:Str):PyData:=.dict [(.none,.str n)]
end PL
namespace PL
open PySem PySem.Spec PyProof.Rows L2 Nh
def XT(K:Frag)(c:Value)(tab:List (Str×Bool)):Prop:=∀n b C,tab.lookup n=some b→nsIn K mainGlobals n=some (some (.ref C))→ExCls K C∧kitOne K (.ref C) c=some b
theorem hJ{K:Frag}{c:Value}:XT K c []:=fun _ _ _ e=>nomatch e
theorem bX{K:Frag}{c:Value}{n:Str}{C:Addr}{b:Bool}{tab:List (Str×Bool)}(ns:nsIn K mainGlobals n=some (some (.ref C)))(Z:ExCls K C)(k:kitOne K (.ref C) c=some b)(h:XT K c tab):XT K c ((n,b)::tab):=fun n' b' C' e ns'=>by
 rw[List.lookup_cons]at e
 split at e
 ·rename_i q
  rw[beq_iff_eq]at q
  subst q
  rw[ns]at ns'
  cases ns'
  cases e
  exact⟨Z,k⟩
 ·exact h n' b' C' e ns'
def ke(tab:List (Str×Bool)):PyData→Option PyData
 |.dict [(.none,.str n)]=>(tab.lookup n).map .bool
 |_=>none
theorem Ev{K:Frag}{H:Hp}{v:V}{n:Str}(r:Rp K H v (.dict [(.none,.str n)])):∃a C o,v=.ref a∧H a=some (.frz o (.ext (gG a C)))∧nsIn K mainGlobals n=some (some (.ref C)):=by
 generalize e:PyData.dict [(PyData.none,PyData.str n)]=d at r
 cases r with
 |exc h1 h2=>cases e;exact⟨_,_,_,rfl,h1,h2⟩
 |dct h1 h2=>
  cases h2 with
  |nil=>cases e
  | @cons k x us d kvs a b=>cases k <;> cases e
 |_=>cases e
section
variable {X:Cx} {e:Expr} {m1:Bool} {f:bH} {p p2 pos:Pos}
theorem xC{c:Value}{vc:V}{tab:List (Str×Bool)}(rc:∀u,RelV vc u→u=c)(T:XT X.K c tab):CallR X (.builtin "isinstance") (fun xs H Q=>∃x d r,xs=[x,vc]∧Rp X.K H x d∧ke tab d=some r∧∀b,r=.bool b→Q (.bl b) H):=by
 intro pins s σ H xs us Q I r h
 obtain⟨x,d,r',rfl,rp,hd,q⟩:=h
 obtain⟨u,w',rfl,ru,rw'⟩:=r.two
 cases rc w' rw'
 unfold ke at hd
 split at hd
 ·rename_i n
  obtain⟨b,eb,z⟩:=Zad.mp hd
  obtain⟨a,C,oz,rfl,ha,ns⟩:=Ev rp
  obtain⟨Z,k⟩:=T n b C eb ns
  cases(show u=Value.ref a from ru)
  exact kia_one (zp Z) I.kIn (show gG a C s.heap from(I.hok a _ ha).2.1) k (fun z=>nomatch z) fun tk=>⟨.bl b,H,I.tok _,rfl,q b z.symm⟩
 ·cases hd
theorem wg {c:Value} {vc:V} {tab:List (Str×Bool)} (rc:∀u,RelV vc u→u=c) (T:XT X.K c tab) (hg:Gl X "isinstance") (hm:X.mg "isinstance"=none) (ha:EX X e m1 f) {x:Str} (h2:PE X (.Name x p2) (tC vc))
  (he:starEach [e,.Name x p2] X.env=(false,eval e X.env)::starEach [.Name x p2] X.env) (he2:starEach [.Name x p2] X.env=[(false,eval (.Name x p2) X.env)]) (hpl:(backTo pos (starEach [.Name x p2] X.env)).any (·.1)=false):
  EX X (.Call (.Name "isinstance" p) [e,.Name x p2] [] pos) m1 (iP (ke tab) f):=by
 refine bW (jm (xC rc T) hg hm PyProof.Rows.boot_isinstance (eI ha (eI h2 gy he2) he) (by decide) (by decide) he hpl) fun σ H Q z=>?_
 obtain⟨B,E,xs,Xs,res,E',fr,cl,e,q⟩:=z
 obtain⟨⟨s,E1⟩,e1,e⟩:=Za.mp e
 obtain⟨d1,e2,e⟩:=Za.mp e
 obtain⟨d2,e3,e⟩:=Zad.mp e
 cases e
 refine⟨B,E,xs,Xs,s,E1,fr,cl,e1,fun v1 H1 ⟨F,A,fr1⟩=>?_⟩
 obtain⟨A',fr2⟩:=fr1.pop
 exact⟨v1,d1,d2,rfl,(fr1.look0 e2).1,e3,fun b z=>q _ _ ⟨F,A',fr2.push ⟨rfl,_,rfl,z▸ .bl b⟩⟩⟩
theorem gk {C:Addr} {tab:List (Str×Bool)} (hg:Gl X "isinstance") (hm:X.mg "isinstance"=none) (ha:EX X e m1 f) {x:Str} (hgx:Gl X x) (hmx:X.mg x=some (.ref C)) (T:XT X.K (.ref C) tab) (hdx:(x == ("__debug__":Str))=false:=by decide)
  (he:starEach [e,.Name x p2] X.env=(false,eval e X.env)::starEach [.Name x p2] X.env:=by rfl) (he2:starEach [.Name x p2] X.env=[(false,eval (.Name x p2) X.env)]:=by rfl) (hpl:(backTo pos (starEach [.Name x p2] X.env)).any (·.1)=false:=by rfl):
  EX X (.Call (.Name "isinstance" p) [e,.Name x p2] [] pos) m1 (iP (ke tab) f):=wg (vc:=.ref C) (fun _ z=>z) T hg hm ha (qK (v:=.ref C) hgx hmx rfl hdx) he he2 hpl
theorem BX {t:String} {tab:List (Str×Bool)} (hg:Gl X "isinstance") (hm:X.mg "isinstance"=none) (ha:EX X e m1 f) {x:Str} (hgx:Gl X x) (hmx:X.mg x=none) (hbx:bootBuiltins x=some (.type t)) (T:XT X.K (.type t) tab) (hnx:x≠"__name__":=by decide) (hdx:(x == ("__debug__":Str))=false:=by decide)
  (he:starEach [e,.Name x p2] X.env=(false,eval e X.env)::starEach [.Name x p2] X.env:=by rfl) (he2:starEach [.Name x p2] X.env=[(false,eval (.Name x p2) X.env)]:=by rfl) (hpl:(backTo pos (starEach [.Name x p2] X.env)).any (·.1)=false:=by rfl):
  EX X (.Call (.Name "isinstance" p) [e,.Name x p2] [] pos) m1 (iP (ke tab) f):=wg (vc:=.ty t) (fun _ z=>z) T hg hm ha (vI (v:=.ty t) hgx hmx hbx rfl hnx hdx) he he2 hpl
end
structure RoomH (k:Nat) (A:Around):Prop where
 dp:A.depth+3*k+5 < recursionLimit
 un:A.units+16*k+200 < cLine
theorem RoomH.mono{j k:Nat}{A:Around}(r:RoomH k A)(h:j≤k):RoomH j A:=⟨by have:=r.dp;omega,by have:=r.un;omega⟩
theorem RoomH.deeper{k:Nat}{A:Around}(r:RoomH (k+1) A)(env:Env):RoomH k (A.deeper env):=
 ⟨by have:=r.dp;show A.depth+1+3*k+5 < _;omega,by have:=r.un;show A.units+3+16*k+200 < _;omega⟩
theorem RoomH.depth{k:Nat}{A:Around}(r:RoomH k A):A.depth < recursionLimit:=by have:=r.dp;omega
theorem RoomH.units{k:Nat}{A:Around}(r:RoomH k A):A.units+64 < cLine:=by have:=r.un;omega
theorem Room.mark{k:Nat}{A:Around}(r:Room k A)(v:Option Value):RoomH k (A.mark v):=⟨r.dp,r.un⟩
abbrev Gm(P:Program)(w:World)(K:Frag)(mg:Str→Option Value)(base:Heap)(N:List Str)(qual:Str)(scope:Scope)(f:Addr)(cd:Value)(A:Around)(outer:List Env)(s:Shared)(H:Hp)(E:XK):Cx:={gY nX P w K mg base N qual scope f cd A outer s H E with calm:=false,xe:=fun _ _=>False}
structure FnOkH (P:Program) (w:World) (K:Frag) (mg:Str→Option Value) (base:Heap) (k:Nat) (f:Addr) (fd:FuncData) (ps:List Str) (sp:Sp):Prop where
 len:∀vs H Q E,sp vs H Q E→vs.length=ps.length
 run:∀(A:Around) (outer:List Env) (s:Shared) (H:Hp) (args:Args) (us:List Value) (vs:List V) (Q:VK) (E:XK),RoomH k A→Env0 P w K mg base A outer s H→BindsTo s fd args (ps.zip us)→Vals vs us→sp vs H Q E→
  codeAny (model P w) A (.call (.ref f) args) (CR nX outer P w H s Q E) s
structure OwnH (P:Program) (w:World) (K:Frag) (mg:Str→Option Value) (base:Heap) (k:Nat) (x:Str) (ps:List Str) (sp:Sp):Prop where
 ex:∃(f:Addr) (fd:FuncData),FnOkH P w K mg base k f fd ps sp∧Binds K fd ps []∧mg x=some (.ref f)∧keepIn K (.ref f)=true
theorem Ew{P:Program}{w:World}{K:Frag}{mg:Str→Option Value}{base:Heap}{k:Nat}{f:Addr}{name qual:Str}{params:Arguments}{body:List Stmt}{scope:Scope}{dV kV doc pm cdv ct oc:Value}{an od:Option Addr}
  {osl:Array (Option Value)} {N ps:List Str} {sp:Sp} (lk:K.lookup f=some ⟨oc,od,.func (fnOf name qual params body scope dV kV doc pm an cdv ct),osl⟩) (hcd:codeIn K cdv qual=true) (S:FnScope N ps scope)
  (len:∀vs H Q E,sp vs H Q E→vs.length=ps.length)
  (hbody:∀(A:Around) (outer:List Env) (s:Shared) (H:Hp) (vs:List V) (Q:VK) (E:XK),RoomH k (A.deeper (envOfC qual scope s.heap.objs.size f cdv))→sp vs H Q E→
   ∃t,PSs (Gm P w K mg base N qual scope f cdv A outer s H E) body t∧t {nx:=fun _ H'=>Q .non H',rt:=Q} (eO N vs) H):
  FnOkH P w K mg base (k+1) f (fnOf name qual params body scope dV kV doc pm an cdv ct) ps sp:=by
 refine⟨len,fun A outer s H args us vs Q E hr e0 hb r hsp=>?_⟩
 have hl:=len _ _ _ _ hsp
 have KX:K.In s.heap:=e0.mod.kin.keeps fun b o e=>(e0.bs b o e).1
 have lim:s.heap.NoLimit:=e0.mod.nolimit.keeps fun b o e=>(e0.bs b o e).1
 have hkind:∀y∈ps.zip us,scope.names.lookup y.1=some .local∨(scope.names.lookup y.1=some .cell∧((cellsFrom (s.heap.objs.size+1) scope.names []).lookup y.1).isSome=true):=fun⟨n,v⟩ hy=>by
  rcases S.par n (List.of_mem_zip hy).1 with q |q
  ·exact .inl q
  ·exact .inr ⟨q,cellsFrom_some _ _ _ (.inl q)⟩
 refine codeAny_call_function hr.depth (KX _ _ lk) rfl S.co S.gen rfl (codeRec_of KX hcd) (hb _ _ _ _ ?_)
 refine wpAny_newFunctionEnv_cells S.kind hkind fun env he s1 x=>?_
 subst he
 refine⟨lim.keeps x.toInCall.keep,codeAny_func ?_⟩
 obtain⟨t,ht,hq⟩:=hbody A outer s H vs Q E (hr.deeper _) hsp
 have I0:Inv (gY nX P w K mg base N qual scope f cdv {A with handled:=none} outer s H E) [] (eO N vs) H s1:=me S rfl ⟨e0.frames,e0.mod,e0.bs,e0.bsz,e0.funs,e0.frf,e0.hok,e0.bare,e0.tab⟩ hl r x
 have I:Inv (Gm P w K mg base N qual scope f cdv A outer s H E) [] (eO N vs) H s1:=
  let ok:=I0.ok
  ⟨⟨ok.mod,ok.kind,ok.glob,ok.blt,ok.above,ok.inj,ok.has,ok.cab,fun z=>(nomatch z),Around.frames_deeper e0.frames,ok.stk,ok.exf,ok.bs,ok.bsz,ok.noex,ok.exfs,ok.funs,ok.frf,ok.tab⟩,I0.os,I0.bare,I0.base,I0.loc,I0.cell,I0.free,I0.freeC,I0.pin,I0.hok,I0.len⟩
 refine wpAny_mono (ht [] s1 (eO N vs) H _ I hq) (fun fl s' hs=>?_) fun e s' hs=>hs.elim
 have fin:∀{σ':L2.St} {H':Hp} {v:V} {u:Value},Inv (Gm P w K mg base N qual scope f cdv A outer s H E) [] σ' H' s'→RelV v u→Q v H'→CE outer P w H s Q u s':=
  fun {σ' H' v u} J rv q=>⟨v,H',J.os,J.bare,J.base,J.hok,rv,q⟩
 cases fl with
 |ret u=>
  obtain⟨v,σ',H',J,rv,q⟩:=hs
  exact fin J rv q
 |next=>
  obtain⟨σ',H',J,q⟩:=hs
  exact fin (v:=V.non) (u:=Value.none) J rfl q
 |brk=>
  obtain⟨_,_,_,q⟩:=hs
  exact False.elim q
 |cont=>
  obtain⟨_,_,_,q⟩:=hs
  exact False.elim q
theorem G2{P:Program}{w:World}{K:Frag}{mg:Str→Option Value}{base:Heap}{x:Str}{st:Stmt}{N ps:List Str}{k a n:Nat}{g:dO}(D:Def K mg x st ps)(S:FnScope N ps (af st))(hpa:ps.length=a)(hNn:N.length=n)(hps:a≤n)
  (hbody:∀(f:Addr) (cdv:Value) (A:Around) (outer:List Env) (s:Shared) (H:Hp) (E:XK),RoomH k (A.deeper (PyProof.Rows.envOfC x (af st) s.heap.objs.size f cdv))→
   uM (Gm P w K mg base N x (af st) f cdv A outer s H E) (aA st) g):OwnH P w K mg base (k+1) x ps (cM K (fz a n g)):=by
 subst hpa hNn
 obtain⟨f,fd,F,mx,b⟩:=D.ex
 have kp:=F.kp
 obtain⟨oc,od,kV,doc,pm,an,cdv,ct,osl,rfl,lk,hcd⟩:=F.ex
 refine⟨f,_,Ew lk hcd S (fun vs H Q E h=>?_) fun A outer s H vs Q E hr h=>?_,b,mx,kp⟩
 ·obtain⟨ds,r,e,rp,_⟩:=h
  unfold fz at e
  split at e
  ·rename_i hl
   rw[rp.len];exact hl
  ·cases e
 obtain⟨ds,r,e,rp,q⟩:=h
 unfold fz at e
 split at e
 ·rename_i hl
  refine⟨_,hbody f cdv A outer s H E hr,?_⟩
  obtain⟨⟨E',fl⟩,e1,e⟩:=Za.mp e
  refine⟨H,aX N.length ds,[],[],E',fl,⟨H,[],jX rp (by omega)⟩,rfl,e1,?_⟩
  cases fl with
  |nx=>
   cases e
   rintro σ' H' ⟨F',A',fr'⟩
   exact q _ _ (fr'.bf.trans fr'.fh) .non
  |bk=>cases e
  |ct=>cases e
  |rt r'=>
   rintro σ' v H' ⟨F',A',fr'⟩
   obtain⟨s1,s2⟩:=fr'.resultO e
   exact q v H' s1 s2
 ·cases e
theorem BY{X:Cx}{k:Nat}{x:Str}{ps:List Str}{c:List PyData→Option Sl}{p pos:Pos}{e:Expr}{es:List Expr}{m:Bool}{g:ln}(D:OwnH X.prog X.w X.K X.mg X.base k x ps (cM X.K c))(hr:RoomH k X.A)(hg:Gl X x)(ha:AX X (e::es) m g)
  (hdb:(x == ("__debug__":Str))=false:=by decide) (he:starEach (e::es) X.env=(false,eval e X.env)::starEach es X.env:=by rfl) (hpl:(backTo pos (starEach es X.env)).any (·.1)=false:=by rfl):
  EX X (.Call (.Name x p) (e::es) [] pos) m (ai c g):=by
 obtain⟨f,fd,F,b,mx,kp⟩:=D.ex
 have hc:PE X (.Call (.Name x p) (e::es) [] pos) (yx (cM X.K c) [] E0 (ra X.K m g)):=by
  intro pins s σ H Q I h
  refine wpAny_Call_Name_kw (ip I hg mx ?_ hdb)
  refine callWith_K (h₀:=X.base) I.ok.mod.kin kp (eG (ha pos pins s σ H _ I h) fun us s1 ⟨vs,H1,I1,r,q⟩=>⟨I1.kIn,?_⟩) he hpl
  have q:cM X.K c (vs++[]) H1 Q E0:=q
  rw[qJ]at q
  have hlen:(us++[]).length=ps.length:=by rw[qJ,←r.length];exact F.len _ _ _ _ q
  have bd:=b s1 us I1.kIn hlen
  rw[qJ]at bd
  refine wpAny_call (codeAny_mono (F.run X.A X.stack s1 H1 ⟨us,[]⟩ us vs Q E0 hr I1.env0 bd r q) fun rr s' hq=>?_)
  cases rr with
  |error e=>exact False.elim hq
  |ok fl=>
   cases fl with
   |ret u=>exact I1.after hq
   |next=>exact False.elim hq
   |brk=>exact False.elim hq
   |cont=>exact False.elim hq
 refine bW hc fun σ H Q z=>?_
 obtain⟨B,E,xs,Xs,res,E',fr,cl,e,q⟩:=z
 obtain⟨⟨rs,E1⟩,e1,e⟩:=Za.mp e
 obtain⟨ds,e2,e⟩:=Za.mp e
 obtain⟨r,e3,e⟩:=Zad.mp e
 cases e
 refine⟨B,E,xs,Xs,rs,E1,fr,cl,e1,fun vs H1 hl ⟨F,A,fr1⟩=>?_⟩
 obtain⟨r1,A',fr2⟩:=fr1.looks hl e2
 exact⟨ds,res,e3,by rw[qJ];exact r1,fun v H' g q'=>q v H' (fr2.told g q')⟩
end PL
namespace NhSG
set_option autoImplicit false
open PySem PyProof PyProof.Rows PySem.W
abbrev Ky:=Int×List Nat
def gL(a b:Ky):Bool:=decide (a.1 < b.1)||(decide (a.1=b.1)&&decide (a.2 < b.2))
theorem ltKy_iff{a b:Ky}:gL a b=true↔a.1 < b.1∨(a.1=b.1∧a.2 < b.2):=by simp[gL]
theorem rH{a b:Ky}:gL a b=false↔¬(a.1 < b.1∨(a.1=b.1∧a.2 < b.2)):=by rw[←ltKy_iff];simp
def pJ(hp:Heap):Value→Option Ky
 |.ref a=>(hp.get? a).bind fun o=>match o.data with
  |.seq xs _=>match xs.toList with
   |[.int n _,.str z _]=>some (n,z.cps.toList)
   |_=>none
  |_=>none
 |_=>none
theorem BZ{hp:Heap}{a:Addr}{o:Obj}{xs:Array Value}{k:Nat}{n:Int}{t u:Tok}{z:Str}(ho:hp.get? a=some o)(hd:o.data=.seq xs k)(hx:xs.toList=[.int n t,.str z u]):pJ hp (.ref a)=some (n,z.cps.toList):=by
 simp[pJ,ho,hd,hx]
theorem wj{hp:Heap}{v:Value}{y:Ky}(h:pJ hp v=some y):∃a o xs k t z u,v=.ref a∧hp.get? a=some o∧o.data=.seq xs k∧xs.toList=[.int y.1 t,.str z u]∧y.2=z.cps.toList:=by
 unfold pJ at h
 split at h
 ·rename_i a
  obtain⟨o,ho,h⟩:=Za.mp h
  split at h
  ·rename_i xs k hd
   split at h
   ·rename_i n t z u hx
    cases h
    exact⟨a,o,xs,k,t,z,u,rfl,ho,hd,hx,rfl⟩
   ·cases h
  ·cases h
 ·cases h
@[reducible] def gm (hp:Heap):PyProof.Rows.KeyKind where
 α:=Ky
 blt:=gL
 irrefl a:=by
  rw[rH]
  rintro(h |h)
  ·omega
  ·exact List.lt_irrefl _ h.2
 trans a b c h1 h2:=by
  rw[ltKy_iff]at *
  rcases h1 with h1 |h1
  ·rcases h2 with h2 |h2
   ·exact .inl (by omega)
   ·exact .inl (by omega)
  ·rcases h2 with h2 |h2
   ·exact .inl (by omega)
   ·exact .inr ⟨by omega,List.lt_trans h1.2 h2.2⟩
 negTrans a b c h:=by
  rw[ltKy_iff]at *
  rw[ltKy_iff]
  by_cases hab:a.1 < b.1
  ·exact .inl (.inl hab)
  ·by_cases hbc:b.1 < c.1
   ·exact .inr (.inl hbc)
   ·have e:a.1=c.1∧a.2 < c.2:=by
     rcases h with h |h
     ·omega
     ·exact h
    by_cases hab2:a.2 < b.2
    ·exact .inl (.inr ⟨by omega,hab2⟩)
    ·exact .inr (.inr ⟨by omega,List.lt_of_le_of_lt (List.not_lt.mp hab2) e.2⟩)
 total a b h1 h2:=by
  rw[rH]at *
  have e:a.1=b.1:=by
   have n1:¬a.1 < b.1:=fun z=>h1 (.inl z)
   have n2:¬b.1 < a.1:=fun z=>h2 (.inl z)
   omega
  have e2:a.2=b.2:=List.le_antisymm (List.not_lt.mp fun z=>h2 (.inr ⟨e.symm,z⟩)) (List.not_lt.mp fun z=>h1 (.inr ⟨e,z⟩))
  exact Prod.ext e e2
 keyOf:=pJ hp
 dflt:=(0,[])
def Hz(prog:Program)(w:World)(A:Around)(κ:PyProof.Rows.KeyKind)(kd:SortKind)(s:Shared):Prop:=
 ∀(E:Value→Shared→Prop) (x y:Value) (a b:κ.α) {Q:Bool→Shared→Prop},κ.keyOf x=some a→κ.keyOf y=some b→Q (κ.blt a b) s→wpAny (model prog w) A (keyLt' kd x y) Q E s
theorem B3{prog:Program}{w:World}{A:Around}{s:Shared}:Hz prog w A (gm s.heap) (tuples' true) s:=fun E x y a b Q ha hb hq=>by
 obtain⟨ax,ox,xs,kx,tx,zx,ux,rfl,hox,hdx,hxx,ea⟩:=wj ha
 obtain⟨ay,oy,ys,ky,ty,zy,uy,rfl,hoy,hdy,hyy,eb⟩:=wj hb
 refine kat_lt hox hdx hoy hdy ?_
 have fin:decide (xs.size < ys.size)=false:=by
  have l1:xs.size=2:=by rw[←uz,hxx];rfl
  have l2:ys.size=2:=by rw[←uz,hyy];rfl
  rw[l1,l2]
  rfl
 rw[hxx,hyy,fin]
 show KatLex prog w A true false Q [(.int a.1 tx,.int b.1 ty),(.str zx ux,.str zy uy)] 0 s
 refine kat_cons (wpAny_eqBool_int (kat_go (fun e1=>kat_yes (kat_cons (wpAny_eqBool_str (kat_go (fun e2=>kat_yes (kat_nil ?_)) (fun e2=>kat_no ?_))))) (fun e1=>kat_no ?_)))
 ·have e1:a.1=b.1:=by simpa using e1
  have e2:zx=zy:=by simpa using e2
  have:gL a b=false:=by
   rw[rH,ea,eb,e2]
   rintro(z |z)
   ·omega
   ·exact List.lt_irrefl _ z.2
  rw[←this]
  exact hq
 ·have e1:a.1=b.1:=by simpa using e1
  show wpAny (model prog w) A (oneLt' false (.str zx ux) (.str zy uy)) Q _ s
  refine kat_one _ _ (PySem.P.lt_str ?_)
  have:gL a b=decide (zx.cps.toList < zy.cps.toList):=by
   unfold gL
   rw[←ea,←eb]
   simp[e1]
  have hq':Q (gL a b) s:=hq
  rw[this]at hq'
  exact hq'
 ·have e1:¬a.1=b.1:=by simpa using e1
  show wpAny (model prog w) A (oneLt' true (.int a.1 tx) (.int b.1 ty)) Q _ s
  refine oneLt_int ?_
  have:gL a b=decide (a.1 < b.1):=by
   unfold gL
   simp[e1]
  have hq':Q (gL a b) s:=hq
  rw[this]at hq'
  exact hq'
end NhSG
namespace NhLS
set_option autoImplicit false
open PySem PyProof.Rows
def B4:Bool→Keyed→Array Keyed→Nat→Nat→Nat→StateT SortSt Sem (Option Nat):=sortPriv% PySem.Builtin.gallop
def zD:Array Keyed→Array Keyed→StateT SortSt Sem (Array Keyed):=sortPriv% PySem.Builtin.mergeLo
def zE:Array Keyed→Array Keyed→StateT SortSt Sem (Array Keyed):=sortPriv% PySem.Builtin.mergeHi
def B5:Keyed:=(Value.none,Value.none)
def at'(a:Array Keyed)(i:Nat):Keyed:=a.getD i B5
theorem FO{a:Array Keyed}{i:Nat}(h:i < a.size):a[i]? =some (at' a i):=by simp[at',Array.getD,h]
structure Cmp (prog:Program) (w:World) (A:Around) (s:Shared) (κ:SortKind) (O:KeyOrd) (key:Keyed→O.α) (dom:Keyed→Prop):Prop where
 ask:∀(E:Value→Shared→Prop) (x y:Keyed) (Q:Bool→Shared→Prop),dom x→dom y→Q (O.blt (key x) (key y)) s→wpAny (model prog w) A (keyLt' κ x.1 y.1) Q E s
section
variable {prog:Program} {w:World} {A:Around} {E:Value→Shared→Prop} {s:Shared} {κ:SortKind} {O:KeyOrd} {key:Keyed→O.α} {dom:Keyed→Prop} {st:SortSt}
theorem zF(C:Cmp prog w A s κ O key dom){x y:Keyed}{Q:Option Bool→SortSt→Prop}(hk:kindOf st=κ)(dx:dom x)(dy:dom y)(h:Q (some (O.blt (key x) (key y))) st):wpS (model prog w) A E s (lt' x y) Q st:=by
 rw[lt'_eq]
 refine wpS_bind (wpS_get ?_)
 rw[hk]
 refine wpS_bind (wpS_lift (wpAny_attempt (C.ask _ _ _ _ dx dy ⟨rfl,?_⟩)))
 exact wpS_pure h
theorem hM{arr:Array Keyed}{i:Nat}{Q:Keyed→SortSt→Prop}(hi:i < arr.size)(h:Q (at' arr i) st):wpS (model prog w) A E s (elem' arr i) Q st:=by
 rw[elem'_eq,FO hi]
 exact wpS_pure h
def ij(O:KeyOrd)(key:Keyed→O.α)(left:Bool)(k:Keyed)(arr:Array Keyed)(base i:Nat):Bool:=if left then O.blt (key (at' arr (base+i))) (key k)else !O.blt (key k) (key (at' arr (base+i)))
theorem iJ(C:Cmp prog w A s κ O key dom){left:Bool}{k:Keyed}{arr:Array Keyed}{base n hint:Nat}{Q:Option Nat→SortSt→Prop}(hk:kindOf st=κ)(hh:hint < n)(hb:base+n≤arr.size)(dk:dom k)(da:∀i,i < arr.size→dom (at' arr i))
  (mono:∀i j,i < j→j < n→ij O key left k arr base j=true→ij O key left k arr base i=true)
  (h:∀m,m≤n→(∀i,i < m→ij O key left k arr base i=true)→(∀i,m≤i→i < n→ij O key left k arr base i=false)→Q (some m) st):wpS (model prog w) A E s (B4 left k arr base n hint) Q st:=by
 have bey:∀{i:Nat} {Q':Option Bool→SortSt→Prop},i < n→Q' (some (ij O key left k arr base i)) st→wpS (model prog w) A E s (elem' arr (base+i) >>= fun x=>if left=true then lt' x k else (lt' k x >>= fun r=>pure (r.map (!·)))) Q' st:=by
  intro i Q' hi hq
  refine wpS_bind (hM (by lia) ?_)
  have dx:=da (base+i) (by lia)
  cases left with
  |true=>exact zF C hk dx dk hq
  |false=>exact wpS_bind (zF C hk dk dx (wpS_pure hq))
 refine wpS_bind (bey hh ?_)
 have up:∀i j,i≤j→j < n→ij O key left k arr base j=true→ij O key left k arr base i=true:=fun i j hij hj e=>by
  by_cases z:i=j
  ·rw[z];exact e
  ·exact mono i j (by exact Nat.lt_of_le_of_ne ‹_› ‹_›) hj e
 have dn:∀i j,i≤j→j < n→ij O key left k arr base i=false→ij O key left k arr base j=false:=fun i j hij hj e=>by
  cases z:ij O key left k arr base j with
  |false=>rfl
  |true=>rw[up i j hij hj z]at e;cases e
 have fin:∀{body:Nat→Option (Option Nat)×Nat×Nat→StateT SortSt Sem (ForInStep (Option (Option Nat)×Nat×Nat))} {cont:Option (Option Nat)×Nat×Nat→StateT SortSt Sem (Option Nat)},
   (∀lo,Q (some lo) st→wpS (model prog w) A E s (cont (none,lo,lo)) Q st)→
   (∀x lo hi (R:ForInStep (Option (Option Nat)×Nat×Nat)→SortSt→Prop),lo≥hi→R (.done (none,lo,hi)) st→wpS (model prog w) A E s (body x (none,lo,hi)) R st)→
   (∀x lo hi (R:ForInStep (Option (Option Nat)×Nat×Nat)→SortSt→Prop),lo < hi→hi≤n→R (.yield (if ij O key left k arr base (lo+(hi - lo) / 2)=true then (none,lo+(hi - lo) / 2+1,hi)else (none,lo,lo+(hi - lo) / 2))) st→wpS (model prog w) A E s (body x (none,lo,hi)) R st)→
   ∀lo hi,lo≤hi→hi≤n→(∀i,i < lo→ij O key left k arr base i=true)→(∀i,hi≤i→i < n→ij O key left k arr base i=false)→
   wpS (model prog w) A E s (forIn [0:n] (none,lo,hi) body >>= cont) Q st:=by
  intro body cont b3 b1 b2 lo hi f1 f2 f3 f4
  refine wpS_bind (wpS_mono (wpS_forRange (I:=fun x c st'=>st'=st∧∃lo hi,c=(none,lo,hi)∧lo≤hi∧hi≤n∧hi+x≤n+lo∧(∀i,i < lo→ij O key left k arr base i=true)∧(∀i,hi≤i→i < n→ij O key left k arr base i=false))
   (Q:=fun c st'=>st'=st∧∃lo,c=(none,lo,lo)∧lo≤n∧(∀i,i < lo→ij O key left k arr base i=true)∧(∀i,lo≤i→i < n→ij O key left k arr base i=false)) ?s1 ?s2 ⟨rfl,lo,hi,rfl,f1,f2,by exact Nat.le_add_right_of_le ‹_›,f3,f4⟩) ?s3)
  case s2=>
   rintro c st' ⟨rfl,l,o,rfl,h1,h2,h3,h4,h5⟩
   have:l=o:=by lia
   subst this
   exact⟨rfl,l,rfl,h2,h4,h5⟩
  case s3=>
   rintro c st' ⟨rfl,l,rfl,h2,h4,h5⟩
   exact b3 l (h l h2 h4 h5)
  case s1=>
   rintro x c st' - hx ⟨rfl,l,o,rfl,h1,h2,h3,h4,h5⟩
   by_cases z:l≥o
   ·have:l=o:=by exact Nat.le_antisymm ‹_› ‹_›
    subst this
    exact b1 x l l _ z ⟨rfl,l,rfl,h2,h4,h5⟩
   ·refine b2 x l o _ (by exact Nat.lt_of_not_le ‹_›) h2 ?_
    cases e:ij O key left k arr base (l+(o - l) / 2)with
    |true=>exact⟨rfl,_,_,rfl,by lia,by assumption,by lia,fun i hi=>up i _ (by exact Nat.le_of_lt_succ ‹_›) (by lia) e,h5⟩
    |false=>exact⟨rfl,_,_,rfl,by exact pB _ _,by lia,by lia,h4,fun i hi hn=>dn _ i hi hn e⟩
 cases eh:ij O key left k arr base hint with
 |true=>
  dsimp only
  rw[if_pos rfl]
  refine wpS_bind (wpS_mono (wpS_forRange (I:=fun x c st'=>st'=st∧∃l o,c=(none,l,o)∧l < o∧x < o∧hint+l < n∧ij O key left k arr base (hint+l)=true)
   (Q:=fun c st'=>st'=st∧∃l o,c=(none,l,o)∧l < o∧hint+l < n∧ij O key left k arr base (hint+l)=true∧(n - hint≤o∨ij O key left k arr base (hint+o)=false)) ?s1 ?s2 ⟨rfl,0,1,rfl,by exact Nat.lt_succ_self _,by exact Nat.lt_succ_self _,by assumption,eh⟩) ?s3)
  case s2=>
   rintro c st' ⟨rfl,l,o,rfl,h1,h2,h3,h4⟩
   exact⟨rfl,l,o,rfl,h1,h3,h4,.inl (by lia)⟩
  case s1=>
   rintro x c st' - hx ⟨rfl,l,o,rfl,h1,h2,h3,h4⟩
   dsimp only
   by_cases z:o≥n - hint
   ·rw[if_pos z]
    exact wpS_pure ⟨rfl,l,o,rfl,h1,h3,h4,.inl z⟩
   ·rw[if_neg z]
    refine wpS_bind (bey (by lia) ?_)
    cases e:ij O key left k arr base (hint+o)with
    |true=>exact wpS_pure ⟨rfl,o,2*o+1,rfl,by lia,by lia,by lia,e⟩
    |false=>exact wpS_pure ⟨rfl,l,o,rfl,h1,h3,h4,.inr e⟩
  case s3=>
   rintro c st' ⟨rfl,l,o,rfl,h1,h3,h4,h5⟩
   dsimp only
   have f1:hint+l+1≤hint+min o (n - hint):=by lia
   have f2:hint+min o (n - hint)≤n:=by lia
   have f3:∀i,i < hint+l+1→ij O key left k arr base i=true:=fun i hi=>up i _ (by exact Nat.le_of_lt_succ ‹_›) h3 h4
   have f4:∀i,hint+min o (n - hint)≤i→i < n→ij O key left k arr base i=false:=fun i hi hn=>by
    rcases h5 with h5 |h5
    ·lia
    ·exact dn (hint+o) i (by lia) hn h5
   revert f1 f2 f3 f4
   generalize hint+l+1=lo
   generalize hint+min o (n - hint)=hi
   refine fin (fun lo hq=>wpS_pure hq) (fun x lo hi R hz hR=>?_) (fun x lo hi R hz hn hR=>?_) lo hi
   ·dsimp only
    rw[if_pos hz]
    exact wpS_pure hR
   ·dsimp only
    rw[if_neg (by exact Nat.not_le.mpr ‹_›)]
    refine wpS_bind (bey (by lia) ?_)
    cases e:ij O key left k arr base (lo+(hi - lo) / 2)with
    |true=>rw[e]at hR;exact wpS_pure hR
    |false=>rw[e]at hR;exact wpS_pure hR
 |false=>
  dsimp only
  rw[if_neg (by simp)]
  refine wpS_bind (wpS_mono (wpS_forRange (I:=fun x c st'=>st'=st∧∃l o,c=(none,l,o)∧l < o∧x < o∧l≤hint∧ij O key left k arr base (hint - l)=false)
   (Q:=fun c st'=>st'=st∧∃l o,c=(none,l,o)∧l < o∧l≤hint∧ij O key left k arr base (hint - l)=false∧(hint+1≤o∨ij O key left k arr base (hint - o)=true)) ?s1 ?s2 ⟨rfl,0,1,rfl,by exact Nat.lt_succ_self _,by exact Nat.lt_succ_self _,by exact Nat.zero_le _,eh⟩) ?s3)
  case s2=>
   rintro c st' ⟨rfl,l,o,rfl,h1,h2,h3,h4⟩
   exact⟨rfl,l,o,rfl,h1,h3,h4,.inl (by lia)⟩
  case s1=>
   rintro x c st' - hx ⟨rfl,l,o,rfl,h1,h2,h3,h4⟩
   dsimp only
   by_cases z:o≥hint+1
   ·rw[if_pos z]
    exact wpS_pure ⟨rfl,l,o,rfl,h1,h3,h4,.inl z⟩
   ·rw[if_neg z]
    refine wpS_bind (bey (by exact Nat.lt_of_le_of_lt (Nat.sub_le _ _) ‹_›) ?_)
    cases e:ij O key left k arr base (hint - o)with
    |false=>exact wpS_pure ⟨rfl,o,2*o+1,rfl,by lia,by lia,by exact Nat.le_of_not_lt ‹_›,e⟩
    |true=>exact wpS_pure ⟨rfl,l,o,rfl,h1,h3,h4,.inr e⟩
  case s3=>
   rintro c st' ⟨rfl,l,o,rfl,h1,h3,h4,h5⟩
   dsimp only
   have f1:hint+1 - min o (hint+1)≤hint - l:=by omega
   have f2:hint - l≤n:=by lia
   have f3:∀i,i < hint+1 - min o (hint+1)→ij O key left k arr base i=true:=fun i hi=>by
    rcases h5 with h5 |h5
    ·lia
    ·exact up i (hint - o) (by lia) (by exact Nat.lt_of_le_of_lt (Nat.sub_le _ _) ‹_›) h5
   have f4:∀i,hint - l≤i→i < n→ij O key left k arr base i=false:=fun i hi hn=>dn _ i hi hn h4
   revert f1 f2 f3 f4
   generalize hint+1 - min o (hint+1)=lo
   generalize hint - l=hi
   refine fin (fun lo hq=>wpS_pure hq) (fun x lo hi R hz hR=>?_) (fun x lo hi R hz hn hR=>?_) lo hi
   ·dsimp only
    rw[if_pos hz]
    exact wpS_pure hR
   ·dsimp only
    rw[if_neg (by exact Nat.not_le.mpr ‹_›)]
    refine wpS_bind (bey (by lia) ?_)
    cases e:ij O key left k arr base (lo+(hi - lo) / 2)with
    |true=>rw[e]at hR;exact wpS_pure hR
    |false=>rw[e]at hR;exact wpS_pure hR
end
end NhLS
namespace NhLS
set_option autoImplicit false
open PySem PyProof.Rows
def Le(O:KeyOrd)(key:Keyed→O.α)(x y:Keyed):Prop:=O.blt (key y) (key x)=false
structure G (le:Keyed→Keyed→Prop) (T out ra rb:List Keyed):Prop where
 perm:(out++(ra++rb)).Perm T
 pa:(out++ra).Pairwise le
 pb:(out++rb).Pairwise le
def iz(le:Keyed→Keyed→Prop)(T l:List Keyed):Prop:=l.Perm T∧l.Pairwise le
section
variable {le:Keyed→Keyed→Prop} {T out ra rb p:List Keyed}
theorem G.takeA(g:G le T out (p++ra) rb)(h:∀x∈p,∀y∈rb,le x y):G le T (out++p) ra rb where
 perm:=by have:=g.perm;simpa[pA]using this
 pa:=by have:=g.pa;simpa[pA]using this
 pb:=by
  have h1:=g.pa
  have h2:=g.pb
  simp only[List.pairwise_append,Zan]at h1 h2 ⊢
  refine⟨⟨h1.1,h1.2.1.1,fun x hx y hy=>h1.2.2 x hx y (.inl hy)⟩,h2.2.1,fun x hx y hy=>?_⟩
  rcases hx with hx |hx
  ·exact h2.2.2 x hx y hy
  ·exact h x hx y hy
theorem G.takeB(g:G le T out ra (p++rb))(h:∀x∈p,∀y∈ra,le x y):G le T (out++p) ra rb where
 perm:=by
  refine List.Perm.trans ?_ g.perm
  rw[pA]
  refine List.Perm.append_left _ ?_
  rw[←pA,←pA]
  exact List.Perm.append_right _ List.perm_append_comm
 pb:=by have:=g.pb;simpa[pA]using this
 pa:=by
  have h1:=g.pa
  have h2:=g.pb
  simp only[List.pairwise_append,Zan]at h1 h2 ⊢
  refine⟨⟨h2.1,h2.2.1.1,fun x hx y hy=>h2.2.2 x hx y (.inl hy)⟩,h1.2.1,fun x hx y hy=>?_⟩
  rcases hx with hx |hx
  ·exact h1.2.2 x hx y hy
  ·exact h x hx y hy
theorem G.endA(g:G le T out ra []):iz le T (out++ra):=⟨by have:=g.perm;simpa using this,g.pa⟩
theorem G.endB(g:G le T out [] rb):iz le T (out++rb):=⟨by have:=g.perm;simpa using this,g.pb⟩
end
section
variable {O:KeyOrd} {key:Keyed→O.α} {a b:Array Keyed} {T:List Keyed} {out:Array Keyed} {i j ia ib k:Nat} {x y z:Keyed}
theorem Le.refl(x:Keyed):Le O key x x:=O.irrefl _
theorem Le.trans(h1:Le O key x y)(h2:Le O key y z):Le O key x z:=KeyOrd.kle_trans (O:=O) (a:=key x) (b:=key y) (c:=key z) h1 h2
theorem Le.of(h:O.blt (key x) (key y)=true):Le O key x y:=KeyOrd.klt_asymm (O:=O) h
theorem iK(h:i < a.toList.length):a.toList[i]=at' a i:=by
 have h':i < a.size:=by simpa using h
 simp[at',Array.getD,h']
theorem rJ(h:y∈a.toList.drop i):∃j,i≤j∧j < a.size∧y=at' a j:=by
 obtain⟨j,hj,e⟩:=List.mem_iff_getElem.mp h
 rw[List.length_drop,uz]at hj
 refine⟨i+j,by exact pB _ _,by exact Nat.add_lt_of_lt_sub' ‹_›,?_⟩
 rw[List.getElem_drop]at e
 rw[←e,iK]
theorem kO(h:i < a.size):at' a i∈a.toList:=by
 rw[←iK (by simpa using h)]
 exact List.getElem_mem _
theorem qk(pa:a.toList.Pairwise (Le O key))(h:i≤j)(hj:j < a.size):Le O key (at' a i) (at' a j):=by
 by_cases e:i=j
 ·rw[e];exact Le.refl _
 ·have:=List.pairwise_iff_getElem.mp pa i j (by simp;exact Nat.lt_of_le_of_lt ‹_› ‹_›) (by simpa using hj) (by exact Nat.lt_of_le_of_ne ‹_› ‹_›)
  rw[iK,iK]at this
  exact this
theorem tJ(pa:a.toList.Pairwise (Le O key))(h:y∈a.toList.drop i):Le O key (at' a i) y:=by
 obtain⟨j,h1,h2,rfl⟩:=rJ h
 exact qk pa h1 h2
theorem wk(h:i < a.size):a.toList.drop i=[at' a i]++a.toList.drop (i+1):=by
 rw[List.drop_eq_getElem_cons (by simpa using h),iK]
 rfl
theorem wl(k:Nat):a.toList.drop i=(a.extract i (i+k)).toList++a.toList.drop (i+k):=by
 rw[Array.toList_extract,List.extract_eq_take_drop,Zb,←List.drop_drop,List.take_append_drop]
theorem mz:(a.extract i).toList=a.toList.drop i:=by
 rw[Array.toList_extract,List.extract_eq_take_drop]
 exact List.take_of_length_le (by simp)
theorem rK(h:a.size≤i):a.toList.drop i=[]:=List.drop_eq_nil_of_le (by simpa using h)
theorem zG(h:x∈(a.extract i (i+k)).toList):∃j,j < k∧i+j < a.size∧x=at' a (i+j):=by
 rw[Array.toList_extract,List.extract_eq_take_drop,Zb]at h
 obtain⟨j,hj,e⟩:=List.mem_iff_getElem.mp h
 rw[List.length_take,List.length_drop,uz]at hj
 refine⟨j,by lia,by lia,?_⟩
 rw[List.getElem_take,List.getElem_drop]at e
 rw[←e,iK]
theorem G.pushA(g:G (Le O key) T out.toList (a.toList.drop ia) (b.toList.drop ib))(h:ia < a.size)(hl:∀y∈b.toList.drop ib,Le O key (at' a ia) y):G (Le O key) T (out.push (at' a ia)).toList (a.toList.drop (ia+1)) (b.toList.drop ib):=by
 rw[wk h]at g
 rw[Array.toList_push]
 exact g.takeA fun x hx y hy=>by rw[Zab.mp hx];exact hl y hy
theorem G.pushB(g:G (Le O key) T out.toList (a.toList.drop ia) (b.toList.drop ib))(h:ib < b.size)(hl:∀y∈a.toList.drop ia,Le O key (at' b ib) y):G (Le O key) T (out.push (at' b ib)).toList (a.toList.drop ia) (b.toList.drop (ib+1)):=by
 rw[wk h]at g
 rw[Array.toList_push]
 exact g.takeB fun x hx y hy=>by rw[Zab.mp hx];exact hl y hy
theorem G.blkA(g:G (Le O key) T out.toList (a.toList.drop ia) (b.toList.drop ib))(k:Nat)(hl:∀j,j < k→ia+j < a.size→∀y∈b.toList.drop ib,Le O key (at' a (ia+j)) y):G (Le O key) T (out++a.extract ia (ia+k)).toList (a.toList.drop (ia+k)) (b.toList.drop ib):=by
 rw[wl k]at g
 rw[uw]
 exact g.takeA fun x hx y hy=>by obtain⟨j,h1,h2,rfl⟩:=zG hx;exact hl j h1 h2 y hy
theorem G.blkB(g:G (Le O key) T out.toList (a.toList.drop ia) (b.toList.drop ib))(k:Nat)(hl:∀j,j < k→ib+j < b.size→∀y∈a.toList.drop ia,Le O key (at' b (ib+j)) y):G (Le O key) T (out++b.extract ib (ib+k)).toList (a.toList.drop ia) (b.toList.drop (ib+k)):=by
 rw[wl (a:=b) k]at g
 rw[uw]
 exact g.takeB fun x hx y hy=>by obtain⟨j,h1,h2,rfl⟩:=zG hx;exact hl j h1 h2 y hy
theorem G.doneB(g:G (Le O key) T out.toList (a.toList.drop ia) (b.toList.drop ib))(h:b.size≤ib):iz (Le O key) T (out++a.extract ia++b.extract ib).toList:=by
 rw[uw,uw,mz,mz,rK h,qJ]
 rw[rK h]at g
 exact g.endA
theorem G.doneA(g:G (Le O key) T out.toList (a.toList.drop ia) (b.toList.drop ib))(h:a.size≤ia):iz (Le O key) T (out++a.extract ia++b.extract ib).toList:=by
 rw[uw,uw,mz,mz,rK h,qJ]
 rw[rK h]at g
 exact g.endB
theorem G.lastA(g:G (Le O key) T out.toList (a.toList.drop ia) (b.toList.drop ib))(h:ia+1=a.size)(h1:∀y∈b.toList,Le O key y (at' a (a.size - 1))):iz (Le O key) T (out++b.extract ib++a.extract ia).toList:=by
 rw[uw,uw,mz,mz]
 have g':G (Le O key) T out.toList (a.toList.drop ia) (b.toList.drop ib++[]):=by rw[qJ];exact g
 refine(g'.takeB fun x hx y hy=>?_).endA
 obtain⟨j,q1,q2,rfl⟩:=rJ hy
 rw[show j=a.size - 1 by lia]
 exact h1 x (List.mem_of_mem_drop hx)
end
def SS(st st':SortSt):Prop:=∃g,st'=SortSt.mk' (kindOf st) (arrOf st) (pendingOf st) g (failedOf st)
theorem SS.refl(st:SortSt):SS st st:=⟨gallopOf st,rfl⟩
theorem SS.kind{st st':SortSt}(h:SS st st'):kindOf st'=kindOf st:=by obtain⟨g,rfl⟩:=h;rfl
section
variable {prog:Program} {w:World} {A:Around} {E:Value→Shared→Prop} {s:Shared} {κ:SortKind} {O:KeyOrd} {key:Keyed→O.α} {dom:Keyed→Prop} {st:SortSt}
def FP:Nat→StateT SortSt Sem Unit:=sortPriv% PySem.Builtin.setMinGallop
theorem rL{st':SortSt}{g:Nat}{Q:Unit→SortSt→Prop}(hs:SS st st')(h:∀st2,SS st st2→Q () st2):wpS (model prog w) A E s (FP g) Q st':=
 wpS_modify (h _ (by obtain⟨g',rfl⟩:=hs;exact⟨g,rfl⟩))
theorem bq{α:Type}{c:Prop}[Decidable c]{x y:StateT SortSt Sem α}{Q:α→SortSt→Prop}(hc:c)(h:wpS (model prog w) A E s x Q st):wpS (model prog w) A E s (if c then x else y) Q st:=by rw[if_pos hc];exact h
theorem bj{α:Type}{c:Prop}[Decidable c]{x y:StateT SortSt Sem α}{Q:α→SortSt→Prop}(hc:¬c)(h:wpS (model prog w) A E s y Q st):wpS (model prog w) A E s (if c then x else y) Q st:=by rw[if_neg hc];exact h
theorem Ex{α:Type}{m:StateT SortSt Sem α}{Q:α→SortSt→Prop}(h:∀R,R=Q→wpS (model prog w) A E s m R st):wpS (model prog w) A E s m Q st:=h Q rfl
theorem FQ{α:Type}{c:Prop}[Decidable c](f:Nat→StateT SortSt Sem α){x y:Nat}{Q:α→SortSt→Prop}(h:∀m,wpS (model prog w) A E s (f m) Q st):wpS (model prog w) A E s (if c then f x else f y) Q st:=by
 split <;> exact h _
theorem xD(C:Cmp prog w A s κ O key dom){a b:Array Keyed}{Q:Array Keyed→SortSt→Prop}(hk:kindOf st=κ)(da:∀x∈a.toList,dom x)(db:∀x∈b.toList,dom x)(ha:0 < a.size)(hb:0 < b.size)
  (pa:a.toList.Pairwise (Le O key)) (pb:b.toList.Pairwise (Le O key)) (h0:O.blt (key (at' b 0)) (key (at' a 0))=true) (h1:∀y∈b.toList,Le O key y (at' a (a.size - 1)))
  (h:∀r st',SS st st'→iz (Le O key) (a.toList++b.toList) r.toList→Q r st'):wpS (model prog w) A E s (zD a b) Q st:=by
 refine wpS_bind (wpS_lift (wpAny_rule ⟨rfl,?_⟩))
 refine wpS_bind (hM hb ?_)
 obtain⟨T,hT⟩:∃T,T=a.toList++b.toList:=⟨_,rfl⟩
 rw[←hT]at h
 have g0:G (Le O key) T (#[at' b 0]:Array Keyed).toList (a.toList.drop 0) (b.toList.drop 1):=by
  have q:G (Le O key) T (#[]:Array Keyed).toList (a.toList.drop 0) (b.toList.drop 0):=⟨by simp[hT],by simpa using pa,by simpa using pb⟩
  exact q.pushB hb fun y hy=>(Le.of h0).trans (tJ pa hy)
 have dA:∀i,i < a.size→dom (at' a i):=fun i hi=>da _ (kO hi)
 have dB:∀i,i < b.size→dom (at' b i):=fun i hi=>db _ (kO hi)
 extract_lets o0 i0 i1
 by_cases e1:(1 == b.size)=true
 ·refine bq e1 ?_
  exact wpS_pure (h _ st (SS.refl _) (g0.doneB (by simp at e1;exact Nat.le_of_eq (Eq.symm ‹_›))))
 refine bj e1 ?_
 by_cases e2:(0+1 == a.size)=true
 ·refine bq e2 ?_
  exact wpS_pure (h _ st (SS.refl _) (g0.lastA (by simpa using e2) h1))
 refine bj e2 ?_
 refine wpS_bind (wpS_get ?_)
 refine wpS_bind (wpS_mono (wpS_forRange (I:=fun x c st'=>SS st st'∧∃out ia ib mg,c=(none,out,ia,ib,mg)∧ia+1 < a.size∧ib < b.size∧x < ia+ib∧G (Le O key) T out.toList (a.toList.drop ia) (b.toList.drop ib))
  (Q:=fun c st'=>SS st st'∧∃r o,c=(some r,o)∧iz (Le O key) T r.toList) ?s1 ?s2 ⟨SS.refl _,_,0,1,_,rfl,by simp at e2;exact Nat.lt_of_le_of_ne ‹_› ‹_›,by simp at e1;exact Nat.lt_of_le_of_ne ‹_› ‹_›,by exact Nat.lt_succ_self _,g0⟩) ?s3)
 case s3=>
  rintro c st' ⟨hs,r,o,rfl,hg⟩
  exact wpS_pure (h r st' hs hg)
 case s2=>
  rintro c st' ⟨hs,out,ia,ib,mg,rfl,q1,q2,q3,g⟩
  lia
 case s1=>
  rintro x c st1 - hx ⟨hs,out,ia,ib,mg,rfl,q1,q2,q3,g⟩
  refine wpS_bind (wpS_mono (wpS_forRange (I:=fun y c st'=>SS st st'∧∃out ia ib ac bc,c=(none,out,ia,ib,ac,bc)∧ia+1 < a.size∧ib < b.size∧x < ia+ib∧(y=0∨x+1 < ia+ib)∧G (Le O key) T out.toList (a.toList.drop ia) (b.toList.drop ib))
   (Q:=fun c st'=>SS st st'∧((∃r o,c=(some r,o)∧iz (Le O key) T r.toList)∨∃out ia ib ac bc,c=(none,out,ia,ib,ac,bc)∧ia+1 < a.size∧ib < b.size∧x+1 < ia+ib∧G (Le O key) T out.toList (a.toList.drop ia) (b.toList.drop ib))) ?t1 ?t2 ⟨hs,out,ia,ib,0,0,rfl,q1,q2,q3,.inl rfl,g⟩) ?t3)
  case t2=>
   rintro c st' ⟨hs,out,ia,ib,ac,bc,rfl,q1,q2,q3,q4,g⟩
   exact⟨hs,.inr ⟨out,ia,ib,ac,bc,rfl,q1,q2,by lia,g⟩⟩
  case t1=>
   rintro y c st2 - hy ⟨hs,out,ia,ib,ac,bc,rfl,q1,q2,q3,q4,g⟩
   have q0:ia < a.size:=by exact Nat.lt_of_succ_lt ‹_›
   refine wpS_bind (hM q2 ?_)
   refine wpS_bind (hM q0 ?_)
   refine wpS_bind (zF C (hs.kind.trans hk) (dB _ q2) (dA _ q0) ?_)
   cases e:O.blt (key (at' b ib)) (key (at' a ia))with
   |true=>
    refine wpS_bind (hM q2 ?_)
    have g':=g.pushB q2 (fun y hy=>(Le.of e).trans (tJ pa hy))
    by_cases z:(ib+1 == b.size)=true
    ·exact bq z (wpS_pure ⟨hs,.inl ⟨_,_,rfl,g'.doneB (by simp at z;exact Nat.le_of_eq (Eq.symm ‹_›))⟩⟩)
    ·refine bj z ?_
     have z':ib+1 < b.size:=by simp at z;exact Nat.lt_of_le_of_ne ‹_› ‹_›
     dsimp only
     split
     ·exact wpS_pure ⟨hs,.inr ⟨_,_,_,_,_,rfl,q1,z',by exact Nat.succ_lt_succ ‹_›,g'⟩⟩
     ·exact wpS_pure ⟨hs,_,_,_,_,_,rfl,q1,z',by exact uB ‹_›,.inr (by exact Nat.succ_lt_succ ‹_›),g'⟩
   |false=>
    refine wpS_bind (hM q0 ?_)
    have g':=g.pushA (by assumption) (fun y hy=>Le.trans e (tJ pb hy))
    by_cases z:(ia+1+1 == a.size)=true
    ·exact bq z (wpS_pure ⟨hs,.inl ⟨_,_,rfl,g'.lastA (by simpa using z) h1⟩⟩)
    ·refine bj z ?_
     have z':ia+1+1 < a.size:=by simp at z;exact Nat.lt_of_le_of_ne ‹_› ‹_›
     dsimp only
     split
     ·exact wpS_pure ⟨hs,.inr ⟨_,_,_,_,_,rfl,z',q2,by lia,g'⟩⟩
     ·exact wpS_pure ⟨hs,_,_,_,_,_,rfl,z',q2,by lia,.inr (by lia),g'⟩
  case t3=>
   rintro c st2 ⟨hs,⟨r,o,rfl,hg⟩ |⟨out,ia,ib,ac,bc,rfl,q1,q2,q3,g⟩⟩
   ·exact wpS_pure ⟨hs,r,_,rfl,hg⟩
   ·refine wpS_bind (wpS_lift (wpAny_rule ⟨rfl,?_⟩))
    refine wpS_bind (wpS_mono (wpS_forRange (I:=fun y c st'=>SS st st'∧∃out ia ib mg ac bc,c=(none,out,ia,ib,mg,ac,bc)∧ia+1 < a.size∧ib < b.size∧x+1 < ia+ib∧G (Le O key) T out.toList (a.toList.drop ia) (b.toList.drop ib))
     (Q:=fun c st'=>SS st st'∧((∃r o,c=(some r,o)∧iz (Le O key) T r.toList)∨∃out ia ib mg ac bc,c=(none,out,ia,ib,mg,ac,bc)∧ia+1 < a.size∧ib < b.size∧x+1 < ia+ib∧G (Le O key) T out.toList (a.toList.drop ia) (b.toList.drop ib))) ?u1 ?u2 ⟨hs,out,ia,ib,_,ac,bc,rfl,q1,q2,q3,g⟩) ?u3)
    case u2=>
     rintro c st' ⟨hs,out,ia,ib,mg,ac,bc,rfl,q1,q2,q3,g⟩
     exact⟨hs,.inr ⟨out,ia,ib,mg,ac,bc,rfl,q1,q2,by assumption,g⟩⟩
    case u3=>
     rintro c st3 ⟨hs,⟨r,o,rfl,hg⟩ |⟨out,ia,ib,mg,ac,bc,rfl,q1,q2,q3,g⟩⟩
     ·exact wpS_pure ⟨hs,r,_,rfl,hg⟩
     ·exact wpS_bind (rL hs fun st4 h4=>wpS_pure ⟨h4,out,ia,ib,_,rfl,q1,q2,q3,g⟩)
    case u1=>
     rintro y c st3 - hy ⟨hs,out,ia,ib,mg,ac,bc,rfl,q1,q2,q3,g⟩
     refine Ex fun R hR=>?_
     have Rd:∀r o st',SS st st'→iz (Le O key) T r.toList→R (.done (some r,o)) st':=fun r o st' a1 a2=>by rw[hR];exact⟨a1,.inl ⟨r,o,rfl,a2⟩⟩
     have Rn:∀out ia ib mg ac bc st',SS st st'→ia+1 < a.size→ib < b.size→x+1 < ia+ib→G (Le O key) T out.toList (a.toList.drop ia) (b.toList.drop ib)→R (.done (none,out,ia,ib,mg,ac,bc)) st':=
      fun out ia ib mg ac bc st' a1 a2 a3 a4 a5=>by rw[hR];exact⟨a1,.inr ⟨_,_,_,_,_,_,rfl,a2,a3,a4,a5⟩⟩
     have Ry:∀out ia ib mg ac bc st',SS st st'→ia+1 < a.size→ib < b.size→x+1 < ia+ib→G (Le O key) T out.toList (a.toList.drop ia) (b.toList.drop ib)→R (.yield (none,out,ia,ib,mg,ac,bc)) st':=
      fun out ia ib mg ac bc st' a1 a2 a3 a4 a5=>by rw[hR];exact⟨a1,_,_,_,_,_,_,rfl,a2,a3,a4,a5⟩
     clear hR
     extract_lets
     rename Unit→Nat→_=>jp
     refine FQ (jp ()) fun mg'=>?_
     refine wpS_bind (rL hs fun st4 h4=>?_)
     refine wpS_bind (hM q2 ?_)
     refine wpS_bind (iJ C (base:=ia) (n:=a.size - ia) (hint:=0) (h4.kind.trans hk) (by exact Nat.sub_pos_of_lt (Nat.lt_of_succ_lt ‹_›)) (by exact Nat.le_of_eq (Nat.add_sub_of_le (kE (Nat.lt_of_succ_lt ‹_›)))) (dB _ q2) dA ?m1 fun k hk1 hk2 hk3=>?_)
     case m1=>
      intro i j hij hj e
      simp only[ij,Bool.not_eq_true',bS]at e ⊢
      exact(qk pa (by lia) (by exact Nat.add_lt_of_lt_sub' ‹_›):Le O key (at' a (ia+i)) (at' a (ia+j))).trans e
     simp only[ij,Bool.not_eq_true',Bool.not_eq_false',bS]at hk2 hk3
     dsimp -zeta only
     extract_lets
     rename Unit→Array Keyed→Nat→_=>jp1
     have J1:∀(out:Array Keyed) (ia:Nat),ia+1 < a.size→x+1 < ia+ib→G (Le O key) T out.toList (a.toList.drop ia) (b.toList.drop ib)→(∀y∈a.toList.drop ia,Le O key (at' b ib) y)→wpS (model prog w) A E s (jp1 () out ia) R st4:=by
      intro out ia q1 q3 g hl
      have q0:ia < a.size:=by exact Nat.lt_of_succ_lt ‹_›
      refine wpS_bind (hM q2 ?_)
      have g':=g.pushB q2 hl
      by_cases z:(ib+1 == b.size)=true
      ·exact bq z (wpS_pure (Rd _ _ _ h4 (g'.doneB (by simp at z;exact Nat.le_of_eq (Eq.symm ‹_›)))))
      refine bj z ?_
      have z':ib+1 < b.size:=by simp at z;exact Nat.lt_of_le_of_ne ‹_› ‹_›
      refine wpS_bind (hM q0 ?_)
      refine wpS_bind (iJ C (base:=ib+1) (n:=b.size - (ib+1)) (hint:=0) (h4.kind.trans hk) (by exact Nat.sub_pos_of_lt ‹_›) (by exact Nat.le_of_eq (Nat.add_sub_of_le ‹_›)) (dA _ q0) dB ?m2 fun k' hk1' hk2' hk3'=>?_)
      case m2=>
       intro i j hij hj e
       simp only[ij,if_true]at e ⊢
       exact KeyOrd.klt_of_kle_of_klt (O:=O) (qk pb (by lia) (by exact Nat.add_lt_of_lt_sub' ‹_›):Le O key (at' b (ib+1+i)) (at' b (ib+1+j))) e
      simp only[ij,if_true]at hk2' hk3'
      dsimp -zeta only
      extract_lets
      rename Unit→Array Keyed→Nat→_=>jp2
      have J2:∀(out:Array Keyed) (ib':Nat),ib' < b.size→x+1 < ia+ib'→G (Le O key) T out.toList (a.toList.drop ia) (b.toList.drop ib')→(∀y∈b.toList.drop ib',Le O key (at' a ia) y)→wpS (model prog w) A E s (jp2 () out ib') R st4:=by
       intro out ib' p2 p3 g hl
       refine wpS_bind (hM q0 ?_)
       have g':=g.pushA q0 hl
       by_cases z:(ia+1+1 == a.size)=true
       ·exact bq z (wpS_pure (Rd _ _ _ h4 (g'.lastA (by simpa using z) h1)))
       refine bj z ?_
       have z':ia+1+1 < a.size:=by simp at z;exact Nat.lt_of_le_of_ne ‹_› ‹_›
       by_cases z2:(decide (k < 7)&&decide (k' < 7))=true
       ·exact bq z2 (wpS_pure (Rn _ _ _ _ _ _ _ h4 z' p2 (by lia) g'))
       ·exact bj z2 (wpS_pure (Ry _ _ _ _ _ _ _ h4 z' p2 (by lia) g'))
      clear_value jp2
      have tl:∀y∈b.toList.drop (ib+1+k'),Le O key (at' a ia) y:=fun y hy=>by
       obtain⟨j,r1,r2,rfl⟩:=rJ hy
       have:=hk3' (j - (ib+1)) (by exact Nat.le_sub_of_add_le' ‹_›) (by exact Nat.sub_lt_sub_right (kb (pB _ _) ‹_›) ‹_›)
       rwa [show ib+1+(j - (ib+1))=j by exact Nat.add_sub_of_le (kb (pB _ _) ‹_›)]at this
      by_cases z2:k' > 0
      ·refine bq z2 ?_
       have g2:=g'.blkB k' fun j j1 j2 y hy=>(Le.of (hk2' j j1)).trans (tJ pa hy)
       by_cases z3:(ib+1+k' == b.size)=true
       ·exact bq z3 (wpS_pure (Rd _ _ _ h4 (g2.doneB (by simp at z3;exact Nat.le_of_eq (Eq.symm ‹_›)))))
       ·exact bj z3 (J2 _ (ib+1+k') (by simp at z3;lia) (by lia) g2 tl)
      ·have k0:k'=0:=by exact Nat.eq_zero_of_not_pos ‹_›
       subst k0
       exact bj z2 (J2 _ (ib+1) z' (by exact uB ‹_›) g' tl)
     clear_value jp1
     have tl:∀y∈a.toList.drop (ia+k),Le O key (at' b ib) y:=fun y hy=>by
      obtain⟨j,r1,r2,rfl⟩:=rJ hy
      have:=hk3 (j - ia) (by exact Nat.le_sub_of_add_le' ‹_›) (by exact Nat.sub_lt_sub_right (kb (pB _ _) ‹_›) ‹_›)
      rw[show ia+(j - ia)=j by exact Nat.add_sub_of_le (kb (pB _ _) ‹_›)]at this
      exact Le.of this
     by_cases z2:k > 0
     ·refine bq z2 ?_
      have g2:=g.blkA k fun j j1 j2 y hy=>Le.trans (hk2 j j1) (tJ pb hy)
      by_cases z3:(ia+k+1 == a.size)=true
      ·exact bq z3 (wpS_pure (Rd _ _ _ h4 (g2.lastA (by simpa using z3) h1)))
      refine bj z3 ?_
      by_cases z4:(ia+k == a.size)=true
      ·exact bq z4 (wpS_pure (Rd _ _ _ h4 (g2.doneA (by simp at z4;exact Nat.le_of_eq (Eq.symm ‹_›)))))
      ·exact bj z4 (J1 _ (ia+k) (by simp at z3 z4;lia) (by lia) g2 tl)
     ·have k0:k=0:=by exact Nat.eq_zero_of_not_pos ‹_›
      subst k0
      exact bj z2 (J1 _ ia q1 q3 g tl)
end
end NhLS
namespace NhLS
set_option autoImplicit false
open PySem PyProof.Rows
structure H (le:Keyed→Keyed→Prop) (T ra rb out:List Keyed):Prop where
 perm:(ra++rb++out).Perm T
 pa:(ra++out).Pairwise le
 pb:(rb++out).Pairwise le
section
variable {le:Keyed→Keyed→Prop} {T out ra rb p:List Keyed}
theorem H.takeA(g:H le T (ra++p) rb out)(h:∀x∈p,∀y∈rb,le y x):H le T ra rb (p++out) where
 perm:=by
  refine List.Perm.trans ?_ g.perm
  rw[←pA]
  refine List.Perm.append_right _ ?_
  rw[pA,pA]
  exact List.Perm.append_left _ List.perm_append_comm
 pa:=by have:=g.pa;simpa[pA]using this
 pb:=by
  have h1:=g.pa
  have h2:=g.pb
  simp only[List.pairwise_append,Zan]at h1 h2 ⊢
  refine⟨h2.1,⟨h1.1.2.1,h1.2.1,fun x hx y hy=>h1.2.2 x (.inr hx) y hy⟩,fun x hx y hy=>?_⟩
  rcases hy with hy |hy
  ·exact h y hy x hx
  ·exact h2.2.2 x hx y hy
theorem H.takeB(g:H le T ra (rb++p) out)(h:∀x∈p,∀y∈ra,le y x):H le T ra rb (p++out) where
 perm:=by have:=g.perm;simpa[pA]using this
 pb:=by have:=g.pb;simpa[pA]using this
 pa:=by
  have h1:=g.pa
  have h2:=g.pb
  simp only[List.pairwise_append,Zan]at h1 h2 ⊢
  refine⟨h1.1,⟨h2.1.2.1,h2.2.1,fun x hx y hy=>h2.2.2 x (.inr hx) y hy⟩,fun x hx y hy=>?_⟩
  rcases hy with hy |hy
  ·exact h y hy x hx
  ·exact h1.2.2 x hx y hy
theorem H.endA(g:H le T ra [] out):iz le T (ra++out):=⟨by have:=g.perm;simpa using this,g.pa⟩
theorem H.endB(g:H le T [] rb out):iz le T (rb++out):=⟨by have:=g.perm;simpa using this,g.pb⟩
end
section
variable {O:KeyOrd} {key:Keyed→O.α} {a b:Array Keyed} {T:List Keyed} {out:Array Keyed} {i j na nb k:Nat} {x y z:Keyed}
theorem rM(h:y∈a.toList.take i):∃j,j < i∧j < a.size∧y=at' a j:=by
 obtain⟨j,hj,e⟩:=List.mem_iff_getElem.mp h
 rw[List.length_take,uz]at hj
 refine⟨j,by lia,by lia,?_⟩
 rw[List.getElem_take]at e
 rw[←e,iK]
theorem wm(pa:a.toList.Pairwise (Le O key))(hi:i < a.size)(h:y∈a.toList.take (i+1)):Le O key y (at' a i):=by
 obtain⟨j,h1,h2,rfl⟩:=rM h
 exact qk pa (by exact Nat.le_of_lt_succ ‹_›) hi
theorem wn(h:i < a.size):a.toList.take (i+1)=a.toList.take i++[at' a i]:=by
 rw[List.take_succ_eq_append_getElem (by simpa using h),iK]
theorem rN(h:i≤j):a.toList.take j=a.toList.take i++(a.extract i j).toList:=by
 rw[Array.toList_extract,List.extract_eq_take_drop,←List.take_add]
 congr 1
 lia
theorem mB:(a.extract 0 i).toList=a.toList.take i:=by
 rw[Array.toList_extract,List.extract_eq_take_drop]
 rfl
theorem rO(h:x∈(a.extract i j).toList):∃k,i≤k∧k < j∧k < a.size∧x=at' a k:=by
 rw[Array.toList_extract,List.extract_eq_take_drop]at h
 obtain⟨k,hk,e⟩:=List.mem_iff_getElem.mp h
 rw[List.length_take,List.length_drop,uz]at hk
 refine⟨i+k,by exact pB _ _,by lia,by lia,?_⟩
 rw[List.getElem_take,List.getElem_drop]at e
 rw[←e,iK]
theorem H.pushA(g:H (Le O key) T (a.toList.take (na+1)) (b.toList.take nb) out.toList.reverse)(h:na < a.size)(hl:∀y∈b.toList.take nb,Le O key y (at' a na)):H (Le O key) T (a.toList.take na) (b.toList.take nb) (out.push (at' a na)).toList.reverse:=by
 rw[wn h]at g
 rw[Array.toList_push,List.reverse_append]
 exact g.takeA fun x hx y hy=>by rw[Zab.mp hx];exact hl y hy
theorem H.pushB(g:H (Le O key) T (a.toList.take na) (b.toList.take (nb+1)) out.toList.reverse)(h:nb < b.size)(hl:∀y∈a.toList.take na,Le O key y (at' b nb)):H (Le O key) T (a.toList.take na) (b.toList.take nb) (out.push (at' b nb)).toList.reverse:=by
 rw[wn h]at g
 rw[Array.toList_push,List.reverse_append]
 exact g.takeB fun x hx y hy=>by rw[Zab.mp hx];exact hl y hy
theorem H.blkA(g:H (Le O key) T (a.toList.take na) (b.toList.take nb) out.toList.reverse)(h:i≤na)(hl:∀j,i≤j→j < na→j < a.size→∀y∈b.toList.take nb,Le O key y (at' a j)):H (Le O key) T (a.toList.take i) (b.toList.take nb) (out++(a.extract i na).reverse).toList.reverse:=by
 rw[rN h]at g
 rw[uw,List.reverse_append,Array.toList_reverse,List.reverse_reverse]
 exact g.takeA fun x hx y hy=>by obtain⟨j,h1,h2,h3,rfl⟩:=rO hx;exact hl j h1 h2 h3 y hy
theorem H.blkB(g:H (Le O key) T (a.toList.take na) (b.toList.take nb) out.toList.reverse)(h:i≤nb)(hl:∀j,i≤j→j < nb→j < b.size→∀y∈a.toList.take na,Le O key y (at' b j)):H (Le O key) T (a.toList.take na) (b.toList.take i) (out++(b.extract i nb).reverse).toList.reverse:=by
 rw[rN (a:=b) h]at g
 rw[uw,List.reverse_append,Array.toList_reverse,List.reverse_reverse]
 exact g.takeB fun x hx y hy=>by obtain⟨j,h1,h2,h3,rfl⟩:=rO hx;exact hl j h1 h2 h3 y hy
theorem H.doneA(g:H (Le O key) T (a.toList.take na) (b.toList.take nb) out.toList.reverse)(h:na=0):iz (Le O key) T (a.extract 0 na++b.extract 0 nb++out.reverse).toList:=by
 subst h
 rw[uw,uw,mB,mB,Array.toList_reverse]
 exact g.endB
theorem H.doneB(g:H (Le O key) T (a.toList.take na) (b.toList.take nb) out.toList.reverse)(h:nb=0):iz (Le O key) T (a.extract 0 na++b.extract 0 nb++out.reverse).toList:=by
 subst h
 rw[uw,uw,mB,mB,Array.toList_reverse,List.take_zero,qJ]
 exact g.endA
theorem H.firstB(g:H (Le O key) T (a.toList.take na) (b.toList.take nb) out.toList.reverse)(h:nb=1)(h1:∀y∈a.toList,Le O key (at' b 0) y):iz (Le O key) T (b.extract 0 nb++a.extract 0 na++out.reverse).toList:=by
 rw[uw,uw,mB,mB,Array.toList_reverse,pA]
 have g':H (Le O key) T ([]++a.toList.take na) (b.toList.take nb) out.toList.reverse:=g
 refine(g'.takeA fun x hx y hy=>?_).endB
 obtain⟨j,q1,q2,rfl⟩:=rM hy
 rw[show j=0 by lia]
 exact h1 x (List.mem_of_mem_take hx)
end
section
variable {prog:Program} {w:World} {A:Around} {E:Value→Shared→Prop} {s:Shared} {κ:SortKind} {O:KeyOrd} {key:Keyed→O.α} {dom:Keyed→Prop} {st:SortSt}
theorem iA{α:Type}{c:Prop}[Decidable c]{x y:StateT SortSt Sem α}{Q:α→SortSt→Prop}(h1:c→wpS (model prog w) A E s x Q st)(h2:¬c→wpS (model prog w) A E s y Q st):wpS (model prog w) A E s (if c then x else y) Q st:=by
 split
 ·rename_i z;exact h1 z
 ·rename_i z;exact h2 z
theorem xE(C:Cmp prog w A s κ O key dom){a b:Array Keyed}{Q:Array Keyed→SortSt→Prop}(hk:kindOf st=κ)(da:∀x∈a.toList,dom x)(db:∀x∈b.toList,dom x)(ha:0 < a.size)(hb:0 < b.size)
  (pa:a.toList.Pairwise (Le O key)) (pb:b.toList.Pairwise (Le O key)) (h0:∀y∈b.toList,Le O key y (at' a (a.size - 1))) (h1:∀y∈a.toList,Le O key (at' b 0) y)
  (h:∀r st',SS st st'→iz (Le O key) (a.toList++b.toList) r.toList→Q r st'):wpS (model prog w) A E s (zE a b) Q st:=by
 refine wpS_bind (wpS_lift (wpAny_rule ⟨rfl,?_⟩))
 have ha':a.size - 1 < a.size:=by exact Nat.sub_lt ‹_› Nat.one_pos
 refine wpS_bind (hM ha' ?_)
 obtain⟨T,hT⟩:∃T,T=a.toList++b.toList:=⟨_,rfl⟩
 rw[←hT]at h
 have g0:H (Le O key) T (a.toList.take (a.size - 1)) (b.toList.take b.size) (#[at' a (a.size - 1)]:Array Keyed).toList.reverse:=by
  have q:H (Le O key) T (a.toList.take (a.size - 1+1)) (b.toList.take b.size) (#[]:Array Keyed).toList.reverse:=by
   have e1:a.toList.take (a.size - 1+1)=a.toList:=List.take_of_length_le (by simp;lia)
   have e2:b.toList.take b.size=b.toList:=List.take_of_length_le (by simp)
   rw[e1,e2]
   exact⟨by simp[hT],by simpa using pa,by simpa using pb⟩
  exact q.pushA ha' fun y hy=>h0 y (List.mem_of_mem_take hy)
 have dA:∀i,i < a.size→dom (at' a i):=fun i hi=>da _ (kO hi)
 have dB:∀i,i < b.size→dom (at' b i):=fun i hi=>db _ (kO hi)
 by_cases e1:(a.size - 1 == 0)=true
 ·refine bq e1 ?_
  exact wpS_pure (h _ st (SS.refl _) (g0.doneA (by simpa using e1)))
 refine bj e1 ?_
 by_cases e2:(b.size == 1)=true
 ·refine bq e2 ?_
  exact wpS_pure (h _ st (SS.refl _) (g0.firstB (by simpa using e2) h1))
 refine bj e2 ?_
 refine wpS_bind (wpS_get ?_)
 refine wpS_bind (wpS_mono (wpS_forRange (I:=fun x c st'=>SS st st'∧∃na nb out mg,c=(none,na,nb,out,mg)∧na≤a.size∧1≤na∧nb≤b.size∧2≤nb∧na+nb+x < a.size+b.size∧H (Le O key) T (a.toList.take na) (b.toList.take nb) out.toList.reverse)
  (Q:=fun c st'=>SS st st'∧∃r o,c=(some r,o)∧iz (Le O key) T r.toList) ?s1 ?s2 ⟨SS.refl _,a.size - 1,b.size,_,_,rfl,by exact Nat.sub_le _ _,by simp at e1;exact Nat.pos_of_ne_zero ‹_›,by exact fQ _,by simp at e2;lia,by lia,g0⟩) ?s3)
 case s3=>
  rintro c st' ⟨hs,r,o,rfl,hg⟩
  exact wpS_pure (h r st' hs hg)
 case s2=>
  rintro c st' ⟨hs,na,nb,out,mg,rfl,p1,q1,p2,q2,q3,g⟩
  lia
 case s1=>
  rintro x c st1 - hx ⟨hs,na,nb,out,mg,rfl,p1,q1,p2,q2,q3,g⟩
  refine wpS_bind (wpS_mono (wpS_forRange (I:=fun y c st'=>SS st st'∧∃na nb out ac bc,c=(none,na,nb,out,ac,bc)∧na≤a.size∧1≤na∧nb≤b.size∧2≤nb∧na+nb+x < a.size+b.size∧(y=0∨na+nb+(x+1) < a.size+b.size)∧H (Le O key) T (a.toList.take na) (b.toList.take nb) out.toList.reverse)
   (Q:=fun c st'=>SS st st'∧((∃r o,c=(some r,o)∧iz (Le O key) T r.toList)∨∃na nb out ac bc,c=(none,na,nb,out,ac,bc)∧na≤a.size∧1≤na∧nb≤b.size∧2≤nb∧na+nb+(x+1) < a.size+b.size∧H (Le O key) T (a.toList.take na) (b.toList.take nb) out.toList.reverse)) ?t1 ?t2 ⟨hs,na,nb,out,0,0,rfl,p1,q1,p2,q2,q3,.inl rfl,g⟩) ?t3)
  case t2=>
   rintro c st' ⟨hs,na,nb,out,ac,bc,rfl,p1,q1,p2,q2,q3,q4,g⟩
   exact⟨hs,.inr ⟨na,nb,out,ac,bc,rfl,p1,q1,p2,q2,by lia,g⟩⟩
  case t1=>
   rintro y c st2 - hy ⟨hs,na,nb,out,ac,bc,rfl,p1,q1,p2,q2,q3,q4,g⟩
   obtain⟨na,rfl⟩:∃n,na=n+1:=⟨na - 1,by exact(Nat.sub_add_cancel ‹_›).symm⟩
   obtain⟨nb,rfl⟩:∃n,nb=n+1:=⟨nb - 1,by lia⟩
   have p1':na < a.size:=by assumption
   have p2':nb < b.size:=by assumption
   refine wpS_bind (hM p2' ?_)
   refine wpS_bind (hM p1' ?_)
   refine wpS_bind (zF C (hs.kind.trans hk) (dB _ p2') (dA _ p1') ?_)
   simp only[Nat.add_sub_cancel]
   cases e:O.blt (key (at' b nb)) (key (at' a na))with
   |true=>
    refine wpS_bind (hM p1' ?_)
    have g':=g.pushA p1' (fun y hy=>(wm pb p2' hy).trans (Le.of e))
    by_cases z:(na == 0)=true
    ·exact bq z (wpS_pure ⟨hs,.inl ⟨_,_,rfl,g'.doneA (by simpa using z)⟩⟩)
    ·refine bj z ?_
     have z':1≤na:=by simp at z;exact Nat.pos_of_ne_zero ‹_›
     split
     ·exact wpS_pure ⟨hs,.inr ⟨na,nb+1,_,_,_,rfl,by exact kE ‹_›,z',p2,q2,by lia,g'⟩⟩
     ·exact wpS_pure ⟨hs,na,nb+1,_,_,_,rfl,by exact kE ‹_›,z',p2,q2,by lia,.inr (by lia),g'⟩
   |false=>
    refine wpS_bind (hM p2' ?_)
    have g':=g.pushB p2' (fun y hy=>(wm pa p1' hy).trans e)
    by_cases z:(nb == 1)=true
    ·exact bq z (wpS_pure ⟨hs,.inl ⟨_,_,rfl,g'.firstB (by simpa using z) h1⟩⟩)
    ·refine bj z ?_
     have z':2≤nb:=by simp at z;lia
     split
     ·exact wpS_pure ⟨hs,.inr ⟨na+1,nb,_,_,_,rfl,p1,q1,by exact kE ‹_›,z',by lia,g'⟩⟩
     ·exact wpS_pure ⟨hs,na+1,nb,_,_,_,rfl,p1,q1,by exact kE ‹_›,z',by lia,.inr (by lia),g'⟩
  case t3=>
   rintro c st2 ⟨hs,⟨r,o,rfl,hg⟩ |⟨na,nb,out,ac,bc,rfl,p1,q1,p2,q2,q3,g⟩⟩
   ·exact wpS_pure ⟨hs,r,_,rfl,hg⟩
   ·refine wpS_bind (wpS_lift (wpAny_rule ⟨rfl,?_⟩))
    refine wpS_bind (wpS_mono (wpS_forRange (I:=fun y c st'=>SS st st'∧∃na nb out mg ac bc,c=(none,na,nb,out,mg,ac,bc)∧na≤a.size∧1≤na∧nb≤b.size∧2≤nb∧na+nb+(x+1) < a.size+b.size∧H (Le O key) T (a.toList.take na) (b.toList.take nb) out.toList.reverse)
     (Q:=fun c st'=>SS st st'∧((∃r o,c=(some r,o)∧iz (Le O key) T r.toList)∨∃na nb out mg ac bc,c=(none,na,nb,out,mg,ac,bc)∧na≤a.size∧1≤na∧nb≤b.size∧2≤nb∧na+nb+(x+1) < a.size+b.size∧H (Le O key) T (a.toList.take na) (b.toList.take nb) out.toList.reverse)) ?u1 ?u2 ⟨hs,na,nb,out,_,ac,bc,rfl,p1,q1,p2,q2,q3,g⟩) ?u3)
    case u2=>
     rintro c st' ⟨hs,na,nb,out,mg,ac,bc,rfl,p1,q1,p2,q2,q3,g⟩
     exact⟨hs,.inr ⟨na,nb,out,mg,ac,bc,rfl,p1,q1,p2,q2,by assumption,g⟩⟩
    case u3=>
     rintro c st3 ⟨hs,⟨r,o,rfl,hg⟩ |⟨na,nb,out,mg,ac,bc,rfl,p1,q1,p2,q2,q3,g⟩⟩
     ·exact wpS_pure ⟨hs,r,_,rfl,hg⟩
     ·exact wpS_bind (rL hs fun st4 h4=>wpS_pure ⟨h4,na,nb,out,_,rfl,p1,q1,p2,q2,q3,g⟩)
    case u1=>
     rintro y c st3 - hy ⟨hs,na,nb,out,mg,ac,bc,rfl,p1,q1,p2,q2,q3,g⟩
     refine Ex fun R hR=>?_
     have Rd:∀r o st',SS st st'→iz (Le O key) T r.toList→R (.done (some r,o)) st':=fun r o st' a1 a2=>by rw[hR];exact⟨a1,.inl ⟨r,o,rfl,a2⟩⟩
     have Rn:∀na nb out mg ac bc st',SS st st'→na≤a.size→1≤na→nb≤b.size→2≤nb→na+nb+(x+1) < a.size+b.size→H (Le O key) T (a.toList.take na) (b.toList.take nb) out.toList.reverse→R (.done (none,na,nb,out,mg,ac,bc)) st':=
      fun na nb out mg ac bc st' a1 a2 a3 a4 a5 a6 a7=>by rw[hR];exact⟨a1,.inr ⟨_,_,_,_,_,_,rfl,a2,a3,a4,a5,a6,a7⟩⟩
     have Ry:∀na nb out mg ac bc st',SS st st'→na≤a.size→1≤na→nb≤b.size→2≤nb→na+nb+(x+1) < a.size+b.size→H (Le O key) T (a.toList.take na) (b.toList.take nb) out.toList.reverse→R (.yield (none,na,nb,out,mg,ac,bc)) st':=
      fun na nb out mg ac bc st' a1 a2 a3 a4 a5 a6 a7=>by rw[hR];exact⟨a1,_,_,_,_,_,_,rfl,a2,a3,a4,a5,a6,a7⟩
     clear hR
     obtain⟨nb,rfl⟩:∃n,nb=n+1:=⟨nb - 1,by lia⟩
     have p2':nb < b.size:=by assumption
     have q2':1≤nb:=by exact Nat.le_of_lt_succ ‹_›
     extract_lets
     rename Unit→Nat→_=>jp
     refine FQ (jp ()) fun mg'=>?_
     refine wpS_bind (rL hs fun st4 h4=>?_)
     refine wpS_bind (hM p2' ?_)
     refine wpS_bind (iJ C (k:=at' b nb) (base:=0) (n:=na) (hint:=na - 1) (h4.kind.trans hk) (by exact Nat.sub_lt ‹_› Nat.one_pos) (by lia) (dB _ p2') dA ?m1 fun k hk1 hk2 hk3=>?_)
     case m1=>
      intro i j hij hj e
      simp only[ij,Bool.not_eq_true',bS]at e ⊢
      exact(qk pa (by exact kE ‹_›) (by exact kj ‹_› ‹_›):Le O key (at' a i) (at' a j)).trans e
     simp only[ij,Bool.not_eq_true',Bool.not_eq_false',bS]at hk2 hk3
     dsimp -zeta only
     extract_lets
     rename Unit→Nat→Array Keyed→_=>jp1
     have J1:∀(na:Nat) (out:Array Keyed),na≤a.size→1≤na→na+(nb+1)+(x+1) < a.size+b.size→H (Le O key) T (a.toList.take na) (b.toList.take (nb+1)) out.toList.reverse→(∀y∈a.toList.take na,Le O key y (at' b nb))→wpS (model prog w) A E s (jp1 () na out) R st4:=by
      intro na out p1 q1 q3 g hl
      obtain⟨na,rfl⟩:∃n,na=n+1:=⟨na - 1,by exact(Nat.sub_add_cancel ‹_›).symm⟩
      have p1':na < a.size:=by assumption
      refine wpS_bind (hM p2' ?_)
      have g':=g.pushB p2' hl
      by_cases z:(nb == 1)=true
      ·exact bq z (wpS_pure (Rd _ _ _ h4 (g'.firstB (by simpa using z) h1)))
      refine bj z ?_
      have z':2≤nb:=by simp at z;lia
      refine wpS_bind (hM p1' ?_)
      refine wpS_bind (iJ C (k:=at' a na) (base:=0) (n:=nb) (hint:=nb - 1) (h4.kind.trans hk) (by exact Nat.sub_lt ‹_› Nat.one_pos) (by lia) (dA _ p1') dB ?m2 fun k' hk1' hk2' hk3'=>?_)
      case m2=>
       intro i j hij hj e
       simp only[ij,bS]at e ⊢
       exact KeyOrd.klt_of_kle_of_klt (O:=O) (qk pb (by exact kE ‹_›) (by lia):Le O key (at' b i) (at' b j)) e
      simp only[ij,bS]at hk2' hk3'
      dsimp -zeta only
      extract_lets
      rename Unit→Nat→Array Keyed→_=>jp2
      have J2:∀(nb':Nat) (out:Array Keyed),nb'≤b.size→2≤nb'→na+1+nb'+(x+1) < a.size+b.size→H (Le O key) T (a.toList.take (na+1)) (b.toList.take nb') out.toList.reverse→(∀y∈b.toList.take nb',Le O key y (at' a na))→wpS (model prog w) A E s (jp2 () nb' out) R st4:=by
       intro nb' out r1 r2 r3 g hl
       refine wpS_bind (hM p1' ?_)
       have g':=g.pushA p1' hl
       by_cases z:(na == 0)=true
       ·exact bq z (wpS_pure (Rd _ _ _ h4 (g'.doneA (by simpa using z))))
       refine bj z ?_
       have z':1≤na:=by simp at z;exact Nat.pos_of_ne_zero ‹_›
       refine iA (fun _=>?_) (fun _=>?_)
       ·exact wpS_pure (Rn _ _ _ _ _ _ _ h4 (by exact kE ‹_›) z' r1 r2 (by lia) g')
       ·exact wpS_pure (Ry _ _ _ _ _ _ _ h4 (by exact kE ‹_›) z' r1 r2 (by lia) g')
      clear_value jp2
      have tl:∀y∈b.toList.take k',Le O key y (at' a na):=fun y hy=>by
       obtain⟨j,r1,r2,rfl⟩:=rM hy
       exact Le.of (hk2' j r1)
      by_cases z2:nb - k' > 0
      ·refine bq z2 ?_
       have g2:=g'.blkB hk1' fun j j1 j2 j3 y hy=>(wm pa p1' hy).trans (hk3' j j1 j2)
       by_cases z3:(k' == 1)=true
       ·exact bq z3 (wpS_pure (Rd _ _ _ h4 (g2.firstB (by simpa using z3) h1)))
       refine bj z3 ?_
       by_cases z4:(k' == 0)=true
       ·exact bq z4 (wpS_pure (Rd _ _ _ h4 (g2.doneB (by simpa using z4))))
       ·exact bj z4 (J2 k' _ (by lia) (by simp at z3 z4;lia) (by lia) g2 tl)
      ·have k0:k'=nb:=by exact Nat.le_antisymm ‹_› (Nat.sub_eq_zero_iff_le.mp (Nat.eq_zero_of_not_pos ‹_›))
       subst k0
       exact bj z2 (J2 k' _ (by exact kE ‹_›) z' (by lia) g' tl)
     clear_value jp1
     have tl:∀y∈a.toList.take k,Le O key y (at' b nb):=fun y hy=>by
      obtain⟨j,r1,r2,rfl⟩:=rM hy
      exact hk2 j r1
     by_cases z2:na - k > 0
     ·refine bq z2 ?_
      have g2:=g.blkA hk1 fun j j1 j2 j3 y hy=>(wm pb p2' hy).trans (Le.of (hk3 j j1 j2))
      by_cases z3:(k == 0)=true
      ·exact bq z3 (wpS_pure (Rd _ _ _ h4 (g2.doneA (by simpa using z3))))
      ·exact bj z3 (J1 k _ (by exact kb ‹_› ‹_›) (by simp at z3;exact Nat.pos_of_ne_zero ‹_›) (by lia) g2 tl)
     ·have k0:k=na:=by exact Nat.le_antisymm ‹_› (Nat.sub_eq_zero_iff_le.mp (Nat.eq_zero_of_not_pos ‹_›))
      subst k0
      exact bj z2 (J1 k _ p1 q1 q3 g tl)
end
end NhLS
namespace NhLS
set_option autoImplicit false
open PySem PyProof.Rows
def So(O:KeyOrd)(key:Keyed→O.α)(a:Array Keyed)(lo hi:Nat):Prop:=∀i j,lo≤i→i < j→j < hi→Le O key (at' a i) (at' a j)
section
variable {O:KeyOrd} {key:Keyed→O.α} {a b:Array Keyed} {i j lo hi p:Nat} {x y z:Keyed}
theorem So.le(h:So O key a lo hi)(h1:lo≤i)(h2:i≤j)(h3:j < hi):Le O key (at' a i) (at' a j):=by
 by_cases e:i=j
 ·rw[e];exact Le.refl _
 ·exact h i j h1 (by exact Nat.lt_of_le_of_ne ‹_› ‹_›) h3
theorem So.ext(h:So O key a lo hi)(q:∀j,lo≤j→j < hi→at' b j=at' a j):So O key b lo hi:=fun i j h1 h2 h3=>by
 rw[q i (by assumption) (by lia),q j (by lia) h3]
 exact h i j h1 h2 h3
theorem tK(h1:i+j < hi)(h2:hi≤a.size):at' (a.extract i hi) j=at' a (i+j):=by
 simp[at',Array.getD,show j < min hi a.size - i by lia,show i+j < a.size by exact kj ‹_› ‹_›]
theorem Db(h1:lo≤hi)(h2:hi≤a.size):(a.extract lo hi).size=hi - lo:=by
 rw[Array.size_extract]
 lia
theorem Dc(h:So O key a lo hi)(h2:hi≤a.size):(a.extract lo hi).toList.Pairwise (Le O key):=by
 rw[List.pairwise_iff_getElem]
 intro i j hi' hj hij
 rw[uz,Array.size_extract]at hi' hj
 rw[iK,iK,tK (by lia) h2,tK (by lia) h2]
 exact h _ _ (by exact pB _ _) (by exact Nat.add_lt_add_left ‹_› _) (by lia)
theorem Ey(h:i < a.size)(j:Nat):at' (a.setIfInBounds i x) j=if i=j then x else at' a j:=by
 unfold at'
 rw[Array.getD_eq_getD_getElem?,Array.getD_eq_getD_getElem?,Array.getElem?_setIfInBounds]
 by_cases e:i=j
 ·subst e;simp[h]
 ·simp[e]
def wr(a:Array Keyed)(p:Nat)(M:List (Keyed×Nat)):Array Keyed:=M.foldl (fun a q=>a.setIfInBounds (p+q.2) q.1) a
theorem wo(p:Nat):∀(M:List (Keyed×Nat)) (a:Array Keyed),(wr a p M).size=a.size
 |[],a=>rfl
 |q::M,a=>(wo p M _).trans (Array.size_setIfInBounds ..)
theorem zH(p:Nat):∀(M:List Keyed) (n:Nat) (a:Array Keyed),p+n+M.length≤a.size→∀j,at' (wr a p (M.zipIdx n)) j=if p+n≤j∧j < p+n+M.length then M.getD (j - (p+n)) B5 else at' a j
 |[],n,a,h,j=>by
  rw[if_neg (by simp)]
  rfl
 |x::M,n,a,h,j=>by
  rw[List.length_cons]at h
  show at' (wr (a.setIfInBounds (p+n) x) p (M.zipIdx (n+1))) j=_
  rw[zH p M (n+1) _ (by rw[Array.size_setIfInBounds];lia),Ey (by lia),List.length_cons]
  by_cases e:p+n=j
  ·subst e
   rw[if_neg (by lia),if_pos rfl,if_pos (by lia),Nat.sub_self]
   rfl
  ·by_cases q:p+(n+1)≤j∧j < p+(n+1)+M.length
   ·rw[if_pos q,if_pos (by lia),show j - (p+n)=(j - (p+(n+1)))+1 by lia]
    rfl
   ·rw[if_neg q,if_neg e,if_neg (by lia)]
theorem B6(M:List Keyed)(a:Array Keyed)(h:p+M.length≤a.size):(wr a p M.zipIdx).toList=a.toList.take p++M++a.toList.drop (p+M.length):=by
 have hs:=wo p M.zipIdx a
 refine List.ext_getElem (by simp[hs];lia) fun i h1 h2=>?_
 rw[iK,show M.zipIdx=M.zipIdx 0 from rfl,zH p M 0 a (by assumption)]
 have h1':i < a.size:=by simpa[hs]using h1
 by_cases c1:i < p
 ·rw[if_neg (by lia),List.getElem_append_left (by simp;lia),List.getElem_append_left (by simp;lia),List.getElem_take,iK]
 ·by_cases c2:i < p+M.length
  ·rw[if_pos (by lia),List.getElem_append_left (by simp;lia),List.getElem_append_right (by simp;lia)]
   have e:i - (a.toList.take p).length=i - (p+0):=by simp;lia
   simp only[e]
   simp[show i - p < M.length by lia]
  ·rw[if_neg (by exact fun h=>‹¬_› h.2),List.getElem_append_right (by simp;lia),List.getElem_drop,iK]
   congr 1
   simp
   lia
end
section
variable {prog:Program} {w:World} {A:Around} {E:Value→Shared→Prop} {s:Shared} {κ:SortKind} {O:KeyOrd} {key:Keyed→O.α} {dom:Keyed→Prop}
theorem B7{st st':SortSt}{Q:PUnit→SortSt→Prop}(h:Q ⟨⟩ st'):wpS (model prog w) A E s (set st':StateT SortSt Sem PUnit) Q st:=by
 unfold wpS;rw[StateT.run_set];exact wpAny_pure ⟨rfl,h⟩
theorem xF(C:Cmp prog w A s κ O key dom){a:Array Keyed}{pd:Array (Nat×Nat×Nat)}{g i sa na pw nb pw':Nat}{Q:Bool→SortSt→Prop}(da:∀i,i < a.size→dom (at' a i))(hp1:pd[i]? =some (sa,na,pw))(hp2:pd[i+1]? =some (sa+na,nb,pw'))
  (h1:1≤na) (h2:1≤nb) (hz:sa+na+nb≤a.size) (s1:So O key a sa (sa+na)) (s2:So O key a (sa+na) (sa+na+nb))
  (h:∀b g',b.toList.Perm a.toList→(∀j,j < sa∨sa+na+nb≤j→at' b j=at' a j)→So O key b sa (sa+na+nb)→Q true (SortSt.mk' κ b ((pd.setIfInBounds i (sa,na+nb,pw)).eraseIdxIfInBounds (i+1)) g' none)):
  wpS (model prog w) A E s (mergeAt' i) Q (SortSt.mk' κ a pd g none):=by
 refine wpS_bind (wpS_get ?_)
 simp only[hp1,hp2]
 refine wpS_bind (B7 ?_)
 have b1:sa+na < a.size:=by lia
 refine wpS_bind (hM b1 ?_)
 refine wpS_bind (iJ C (k:=at' a (sa+na)) (arr:=a) (base:=sa) (n:=na) (hint:=0) rfl (by assumption) (by exact kE ‹_›) (da _ b1) da ?m1 fun k hk1 hk2 hk3=>?_)
 case m1=>
  intro i j hij hj e
  simp only[ij,Bool.not_eq_true',bS]at e ⊢
  exact(s1.le (by exact pB _ _) (by lia) (by exact Nat.add_lt_add_left ‹_› _):Le O key (at' a (sa+i)) (at' a (sa+j))).trans e
 simp only[ij,Bool.not_eq_true',Bool.not_eq_false',bS]at hk2 hk3
 have lo:∀i,sa≤i→i < sa+k→∀j,sa+na≤j→j < sa+na+nb→Le O key (at' a i) (at' a j):=fun i r1 r2 j r3 r4=>by
  have:=hk2 (i - sa) (by exact Nat.sub_lt_left_of_lt_add ‹_› ‹_›)
  rw[show sa+(i - sa)=i by exact Nat.add_sub_of_le ‹_›]at this
  exact Le.trans this (s2.le (by(solve_by_elim (maxDepth:=3) only[*,kb,kj,Nat.lt_of_le_of_lt,kE,Nat.add_le_add_left,Nat.add_lt_add_left,pB,Nat.lt_of_succ_lt])) r3 r4)
 by_cases z:(na - k == 0)=true
 ·refine bq z (wpS_pure (h a g (List.Perm.refl _) (fun _ _=>rfl) fun i j r1 r2 r3=>?_))
  have z':k=na:=by simp at z;lia
  by_cases c:j < sa+na
  ·exact s1 i j r1 r2 c
  ·by_cases c':i < sa+na
   ·exact lo i r1 (by lia) j (by exact Nat.le_of_not_lt ‹_›) r3
   ·exact s2 i j (by exact Nat.le_of_not_lt ‹_›) r2 r3
 refine bj z ?_
 have z':k < na:=by simp at z;lia
 have b2:sa+na - 1 < a.size:=by exact Nat.lt_of_le_of_lt (Nat.sub_le _ _) ‹_›
 rw[show sa+k+(na - k) - 1=sa+na - 1 by lia]
 refine wpS_bind (hM b2 ?_)
 refine wpS_bind (iJ C (k:=at' a (sa+na - 1)) (arr:=a) (base:=sa+na) (n:=nb) (hint:=nb - 1) rfl (by exact Nat.sub_lt ‹_› Nat.one_pos) (by assumption) (da _ b2) da ?m2 fun m hm1 hm2 hm3=>?_)
 case m2=>
  intro i j hij hj e
  simp only[ij,if_true]at e ⊢
  exact KeyOrd.klt_of_kle_of_klt (O:=O) (s2.le (by exact pB _ _) (by lia) (by exact Nat.add_lt_add_left ‹_› _):Le O key (at' a (sa+na+i)) (at' a (sa+na+j))) e
 simp only[ij,if_true]at hm2 hm3
 have up:∀j,sa+na+m≤j→j < sa+na+nb→∀i,sa≤i→i < sa+na→Le O key (at' a i) (at' a j):=fun j r3 r4 i r1 r2=>by
  have:=hm3 (j - (sa+na)) (by exact Nat.le_sub_of_add_le' ‹_›) (by lia)
  rw[show sa+na+(j - (sa+na))=j by exact Nat.add_sub_of_le (kb (pB _ _) ‹_›)]at this
  exact(s1.le r1 (by lia) (by lia):Le O key (at' a i) (at' a (sa+na - 1))).trans this
 by_cases y:(m == 0)=true
 ·refine bq y (wpS_pure (h a g (List.Perm.refl _) (fun _ _=>rfl) fun i j r1 r2 r3=>?_))
  have y':m=0:=by simpa using y
  by_cases c:j < sa+na
  ·exact s1 i j r1 r2 c
  ·by_cases c':i < sa+na
   ·exact up j (by lia) r3 i r1 c'
   ·exact s2 i j (by exact Nat.le_of_not_lt ‹_›) r2 r3
 refine bj y ?_
 have y':0 < m:=by simp at y;exact Nat.pos_of_ne_zero ‹_›
 have zx:(a.extract (sa+k) (sa+na)).size=na - k:=by rw[Db (by exact Nat.add_le_add_left ‹_› _) (by exact kE ‹_›)];lia
 have zy:(a.extract (sa+na) (sa+na+m)).size=m:=by rw[Db (by exact pB _ _) (by lia)];lia
 have mx:∀x∈(a.extract (sa+k) (sa+na)).toList,∃t,sa+k≤t∧t < sa+na∧x=at' a t:=fun x hx=>by
  obtain⟨t,t1,t2,t3,t4⟩:=rO hx
  exact⟨t,t1,t2,t4⟩
 have my:∀x∈(a.extract (sa+na) (sa+na+m)).toList,∃t,sa+na≤t∧t < sa+na+m∧x=at' a t:=fun x hx=>by
  obtain⟨t,t1,t2,t3,t4⟩:=rO hx
  exact⟨t,t1,t2,t4⟩
 have dx:∀x∈(a.extract (sa+k) (sa+na)).toList,dom x:=fun x hx=>by obtain⟨t,t1,t2,rfl⟩:=mx x hx;exact da _ (by lia)
 have dy:∀x∈(a.extract (sa+na) (sa+na+m)).toList,dom x:=fun x hx=>by obtain⟨t,t1,t2,rfl⟩:=my x hx;exact da _ (by lia)
 have px:=Dc (hi:=sa+na) (lo:=sa+k) (a:=a) (fun i j r1 r2 r3=>s1 i j (by exact kb (pB _ _) ‹_›) r2 r3) (by exact kE ‹_›)
 have py:=Dc (hi:=sa+na+m) (lo:=sa+na) (a:=a) (fun i j r1 r2 r3=>s2 i j (by assumption) r2 (by lia)) (by lia)
 have fx:at' (a.extract (sa+k) (sa+na)) 0=at' a (sa+k):=tK (by exact Nat.add_lt_add_left ‹_› _) (by exact kE ‹_›)
 have lx:at' (a.extract (sa+k) (sa+na)) ((a.extract (sa+k) (sa+na)).size - 1)=at' a (sa+na - 1):=by
  rw[zx,tK (by lia) (by exact kE ‹_›)]
  congr 1
  lia
 have fy:at' (a.extract (sa+na) (sa+na+m)) 0=at' a (sa+na):=tK (by exact Nat.add_lt_add_left ‹_› _) (by lia)
 have h0:O.blt (key (at' a (sa+na))) (key (at' a (sa+k)))=true:=hk3 k (by exact fQ _) z'
 have yl:∀y∈(a.extract (sa+na) (sa+na+m)).toList,Le O key y (at' a (sa+na - 1)):=fun y hy=>by
  obtain⟨t,t1,t2,rfl⟩:=my y hy
  have:=hm2 (t - (sa+na)) (by exact Nat.sub_lt_left_of_lt_add ‹_› ‹_›)
  rw[show sa+na+(t - (sa+na))=t by exact Nat.add_sub_of_le ‹_›]at this
  exact Le.of this
 have xf:∀y∈(a.extract (sa+k) (sa+na)).toList,Le O key (at' a (sa+na)) y:=fun y hy=>by
  obtain⟨t,t1,t2,rfl⟩:=mx y hy
  exact(Le.of h0).trans (s1.le (by exact pB _ _) t1 t2)
 have fin:∀(r:Array Keyed) (g':Nat),iz (Le O key) ((a.extract (sa+k) (sa+na)).toList++(a.extract (sa+na) (sa+na+m)).toList) r.toList→
   Q true (SortSt.mk' κ (wr a (sa+k) r.toList.zipIdx) ((pd.setIfInBounds i (sa,na+nb,pw)).eraseIdxIfInBounds (i+1)) g' none):=by
  intro r g' ⟨gp,gs⟩
  have rl:r.toList.length=na - k+m:=by rw[gp.length_eq,vH,uz,uz,zx,zy]
  have at1:=zH (sa+k) r.toList 0 a (by lia)
  have rm:∀x∈r.toList,∃t,sa+k≤t∧t < sa+na+m∧x=at' a t:=fun x hx=>by
   rcases Zan.mp (gp.mem_iff.mp hx)with hx |hx
   ·obtain⟨t,t1,t2,e⟩:=mx x hx
    exact⟨t,t1,by exact Nat.lt_add_right _ ‹_›,e⟩
   ·obtain⟨t,t1,t2,e⟩:=my x hx
    exact⟨t,by lia,t2,e⟩
  have rg:∀n,n < r.toList.length→r.toList.getD n B5=at' r n:=fun n hn=>by
   have hn':n < r.size:=by simpa using hn
   rw[←iK hn]
   simp[hn']
  have rt:∀n,n < r.toList.length→∃t,sa+k≤t∧t < sa+na+m∧at' r n=at' a t:=fun n hn=>rm _ (by rw[←iK hn];exact List.getElem_mem _)
  refine h _ g' ?_ (fun j hj=>?_) fun i j r1 r2 r3=>?_
  ·rw[B6 _ _ (by lia)]
   have ea:a.toList=a.toList.take (sa+k)++((a.extract (sa+k) (sa+na)).toList++(a.extract (sa+na) (sa+na+m)).toList)++a.toList.drop (sa+k+r.toList.length):=by
    rw[←pA,←rN (by exact Nat.add_le_add_left ‹_› _),←rN (by exact pB _ _),rl,show sa+k+(na - k+m)=sa+na+m by lia,List.take_append_drop]
   refine List.Perm.trans ?_ (List.Perm.of_eq ea.symm)
   exact List.Perm.append_right _ (List.Perm.append_left _ gp)
  ·show at' (wr a (sa+k) (r.toList.zipIdx 0)) j=_
   rw[at1,if_neg (by lia)]
  ·show Le O key (at' (wr a (sa+k) (r.toList.zipIdx 0)) i) (at' (wr a (sa+k) (r.toList.zipIdx 0)) j)
   rw[at1,at1]
   by_cases ci:i < sa+k
   ·rw[if_neg (by lia)]
    by_cases cj:j < sa+na+m
    ·by_cases cj':j < sa+k
     ·rw[if_neg (by lia)]
      exact s1 i j r1 r2 (by lia)
     ·rw[if_pos (by lia),rg _ (by lia)]
      obtain⟨t,t1,t2,e⟩:=rt (j - (sa+k+0)) (by lia)
      rw[e]
      by_cases ct:t < sa+na
      ·exact s1 i t r1 (by exact kj ‹_› ‹_›) ct
      ·exact lo i r1 ci t (by exact Nat.le_of_not_lt ‹_›) (by lia)
    ·rw[if_neg (by lia)]
     exact lo i r1 ci j (by lia) r3
   ·by_cases ci':i < sa+na+m
    ·rw[if_pos (by lia),rg _ (by lia)]
     by_cases cj:j < sa+na+m
     ·rw[if_pos (by lia),rg _ (by lia)]
      have:=List.pairwise_iff_getElem.mp gs (i - (sa+k+0)) (j - (sa+k+0)) (by lia) (by lia) (by lia)
      rw[iK,iK]at this
      exact this
     ·rw[if_neg (by lia)]
      obtain⟨t,t1,t2,e⟩:=rt (i - (sa+k+0)) (by lia)
      rw[e]
      by_cases ct:t < sa+na
      ·exact up j (by exact Nat.le_of_not_lt ‹_›) r3 t (by exact kb (pB _ _) ‹_›) ct
      ·exact s2 t j (by exact Nat.le_of_not_lt ‹_›) (by lia) r3
    ·rw[if_neg (by lia),if_neg (by lia)]
     exact s2 i j (by lia) r2 r3
 refine iA (fun _=>?_) (fun _=>?_)
 ·refine wpS_bind (xD C rfl dx dy (by lia) (by lia) px py (by rw[fx,fy];exact h0) (by rw[lx];exact yl) fun r st' hs hg=>?_)
  obtain⟨g',rfl⟩:=hs
  exact wpS_bind (wpS_modify (wpS_bind (wpS_get (wpS_pure (fin r g' hg)))))
 ·refine wpS_bind (xE C rfl dx dy (by lia) (by lia) px py (by rw[lx];exact yl) (by rw[fy];exact xf) fun r st' hs hg=>?_)
  obtain⟨g',rfl⟩:=hs
  exact wpS_bind (wpS_modify (wpS_bind (wpS_get (wpS_pure (fin r g' hg)))))
end
end NhLS
namespace NhLS
set_option autoImplicit false
open PySem PyProof.Rows
structure Sx (a b:Array Keyed) (lo hi:Nat):Prop where
 perm:b.toList.Perm a.toList
 out:∀j,j < lo∨hi≤j→at' b j=at' a j
def Dn(O:KeyOrd)(key:Keyed→O.α)(a:Array Keyed)(lo hi:Nat):Prop:=∀i j,lo≤i→i < j→j < hi→Le O key (at' a j) (at' a i)
def Eqs(O:KeyOrd)(key:Keyed→O.α)(a:Array Keyed)(e q:Nat):Prop:=∀i,e - (q+1)≤i→i < e→Le O key (at' a i) (at' a (e - 1))∧Le O key (at' a (e - 1)) (at' a i)
section
variable {O:KeyOrd} {key:Keyed→O.α} {a b c:Array Keyed} {i j k lo hi n q:Nat}
theorem Sx.refl:Sx a a lo hi:=⟨List.Perm.refl _,fun _ _=>rfl⟩
theorem Sx.trans(h1:Sx a b lo hi)(h2:Sx b c lo hi):Sx a c lo hi:=⟨h2.perm.trans h1.perm,fun j hj=>(h2.out j hj).trans (h1.out j hj)⟩
theorem Sx.size(h:Sx a b lo hi):b.size=a.size:=by have:=h.perm.length_eq;simpa using this
theorem Sx.dom{dom:Keyed→Prop}(h:Sx a b lo hi)(da:∀x∈a.toList,dom x):∀x∈b.toList,dom x:=fun x hx=>da x (h.perm.mem_iff.mp hx)
theorem B8(a:Array Keyed)(i:Nat):at' a i=(a[i]?).getD B5:=Array.getD_eq_getD_getElem? ..
theorem iW(hj:j≤a.size)(k:Nat):at' (mirror a i j ((j - i) / 2)) k=if i≤k∧k < j then at' a (i+j - 1 - k)else at' a k:=by
 rw[B8,getElem?_mirror_all hj]
 split <;> rw[B8]
theorem vb(hk:k < a.size)(hd:n≤k)(i:Nat):at' (bubble a k n) i=if i=k - n then at' a k else if k - n < i∧i≤k then at' a (i - 1)else at' a i:=by
 rw[B8,getElem?_bubble hk n hd]
 repeat' split
 all_goals rw[B8]
theorem Sx.rev(h1:lo≤i)(h2:j≤hi)(h3:j≤a.size):Sx a (mirror a i j ((j - i) / 2)) lo hi:=
 ⟨Array.perm_iff_toList_perm.mp (mirror_perm _ _ _ _),fun k hk=>by rw[iW h3,if_neg (by lia)]⟩
theorem Sx.bub(h1:k < a.size)(h0:n≤k)(h2:lo≤k - n)(h3:k < hi):Sx a (bubble a k n) lo hi:=
 ⟨Array.perm_iff_toList_perm.mp (bubble_perm _ _ _),fun j hj=>by rw[vb h1 h0,if_neg (by lia),if_neg (by lia)]⟩
theorem So.step(h:So O key a lo hi)(hl:lo < hi)(e:Le O key (at' a (hi - 1)) (at' a hi)):So O key a lo (hi+1):=fun i j h1 h2 h3=>by
 by_cases c:j < hi
 ·exact h i j h1 h2 c
 ·rw[show j=hi by lia]
  exact(h.le h1 (by lia) (by lia):Le O key (at' a i) (at' a (hi - 1))).trans e
theorem Dn.le(h:Dn O key a lo hi)(h1:lo≤i)(h2:i≤j)(h3:j < hi):Le O key (at' a j) (at' a i):=by
 by_cases e:i=j
 ·rw[e];exact Le.refl _
 ·exact h i j h1 (by exact Nat.lt_of_le_of_ne ‹_› ‹_›) h3
theorem Dn.step(h:Dn O key a lo hi)(hl:lo < hi)(e:Le O key (at' a hi) (at' a (hi - 1))):Dn O key a lo (hi+1):=fun i j h1 h2 h3=>by
 by_cases c:j < hi
 ·exact h i j h1 h2 c
 ·rw[show j=hi by lia]
  exact Le.trans e (h.le h1 (by lia) (by lia))
theorem Dn.rev(h:Dn O key a lo hi)(e:Eqs O key a hi q)(hz:hi≤a.size)(hq:lo+(q+1)≤hi):Dn O key (mirror a (hi - (q+1)) hi ((hi - (hi - (q+1))) / 2)) lo hi:=fun i j h1 h2 h3=>by
 rw[iW hz,iW hz]
 by_cases c:hi - (q+1)≤i
 ·rw[if_pos (by lia),if_pos (by lia)]
  exact(e _ (by lia) (by lia)).1.trans (e _ (by lia) (by lia)).2
 ·rw[if_neg (show ¬(hi - (q+1)≤i∧i < hi) by exact fun h=>‹¬_› h.1)]
  by_cases c':hi - (q+1)≤j
  ·rw[if_pos (by exact⟨‹_›,‹_›⟩)]
   exact h _ _ h1 (by lia) (by lia)
  ·rw[if_neg (by exact fun h=>‹¬_› h.1)]
   exact h _ _ h1 h2 h3
theorem Dn.flip(h:Dn O key a lo hi)(hz:hi≤a.size):So O key (mirror a lo hi ((hi - lo) / 2)) lo hi:=fun i j h1 h2 h3=>by
 rw[iW hz,iW hz,if_pos (by lia),if_pos (by lia)]
 exact h _ _ (by lia) (by lia) (by lia)
theorem Eqs.one:Eqs O key a (hi+1) 0:=fun i h1 h2=>by
 rw[show i=hi by lia]
 exact⟨Le.refl _,Le.refl _⟩
end
section
variable {prog:Program} {w:World} {A:Around} {E:Value→Shared→Prop} {s:Shared} {κ:SortKind} {O:KeyOrd} {key:Keyed→O.α} {dom:Keyed→Prop} {a:Array Keyed} {pd:Array (Nat×Nat×Nat)} {g:Nat}
theorem mD(C:Cmp prog w A s κ O key dom){i j:Nat}{Q:Option Bool→SortSt→Prop}(da:∀x∈a.toList,dom x)(hi:i < a.size)(hj:j < a.size)(h:Q (some (O.blt (key (at' a i)) (key (at' a j)))) (SortSt.mk' κ a pd g none)):wpS (model prog w) A E s (ltAt' i j) Q (SortSt.mk' κ a pd g none):=
 wpS_bind (wpS_get (wpS_bind (hM hi (wpS_bind (hM hj (zF C rfl (da _ (kO hi)) (da _ (kO hj)) h))))))
theorem wq{i j:Nat}{Q:Unit→SortSt→Prop}(h:Q () (SortSt.mk' κ (mirror a i j ((j - i) / 2)) pd g none)):wpS (model prog w) A E s (reverseSlice' i j) Q (SortSt.mk' κ a pd g none):=wpS_modify h
theorem Ez{k l:Nat}{Q:Unit→SortSt→Prop}(h:Q () (SortSt.mk' κ (bubble a k (k - l)) pd g none)):wpS (model prog w) A E s (moveDown' k l) Q (SortSt.mk' κ a pd g none):=wpS_modify h
theorem De{lo n0 nrem:Nat}{β:Type}{body:Nat→Option β×Nat→StateT SortSt Sem (ForInStep (Option β×Nat))}{Q:Option β×Nat→SortSt→Prop}(h1:1≤n0)(h2:n0≤nrem)(hs:So O key a lo (lo+n0))
  (hb:∀x n (R:ForInStep (Option β×Nat)→SortSt→Prop),1≤n→n < nrem→R (if O.blt (key (at' a (lo+n))) (key (at' a (lo+n - 1)))=true then .done (none,n)else .yield (none,n+1)) (SortSt.mk' κ a pd g none)→wpS (model prog w) A E s (body x (none,n)) R (SortSt.mk' κ a pd g none))
  (h:∀n,n0≤n→n≤nrem→So O key a lo (lo+n)→(n < nrem→O.blt (key (at' a (lo+n))) (key (at' a (lo+n - 1)))=true)→Q (none,n) (SortSt.mk' κ a pd g none)):
  wpS (model prog w) A E s (forIn [n0:nrem] (none,n0) body) Q (SortSt.mk' κ a pd g none):=by
 refine wpS_forRange (I:=fun x c st'=>st'=SortSt.mk' κ a pd g none∧c=(none,x)∧n0≤x∧So O key a lo (lo+x)) ?_ ?_ ⟨rfl,rfl,fQ _,hs⟩
 ·rintro x c st' q1 q2 ⟨rfl,rfl,q3,q4⟩
  refine hb x x _ (by exact kj ‹_› ‹_›) q2 ?_
  cases e:O.blt (key (at' a (lo+x))) (key (at' a (lo+x - 1)))with
  |true=>exact h x q3 (by exact kE ‹_›) q4 fun _=>e
  |false=>exact⟨rfl,rfl,by(solve_by_elim (maxDepth:=3) only[*,kb,kj,Nat.lt_of_le_of_lt,kE]),q4.step (by lia) e⟩
 ·rintro c st' ⟨rfl,rfl,q3,q4⟩
  rw[show max n0 nrem=nrem by exact Nat.max_eq_right ‹_›]at q4 ⊢
  exact h nrem h2 (fQ _) q4 fun z=>absurd z (Nat.lt_irrefl _)
theorem rP(C:Cmp prog w A s κ O key dom){lo n ok:Nat}{Q:Bool→SortSt→Prop}(da:∀x∈a.toList,dom x)(h1:1≤ok)(h2:ok≤n)(hz:lo+n≤a.size)(hs:So O key a lo (lo+ok))
  (h:∀b,Sx a b lo (lo+n)→So O key b lo (lo+n)→Q true (SortSt.mk' κ b pd g none)):wpS (model prog w) A E s (binarySort' lo n ok) Q (SortSt.mk' κ a pd g none):=by
 refine wpS_bind (wpS_mono (wpS_forRange (I:=fun k c st'=>c=(none,())∧∃b,st'=SortSt.mk' κ b pd g none∧Sx a b lo (lo+n)∧So O key b lo (lo+k)) (Q:=fun c st'=>c=(none,())∧∃b,st'=SortSt.mk' κ b pd g none∧Sx a b lo (lo+n)∧So O key b lo (lo+n)) ?s1 ?s2 ⟨rfl,a,rfl,.refl,by rw[show max ok 1=ok by exact Nat.max_eq_left ‹_›];exact hs⟩) ?s3)
 case s3=>
  rintro c st' ⟨rfl,b,rfl,sb,ss⟩
  exact wpS_pure (h b sb ss)
 case s2=>
  rintro c st' ⟨rfl,b,rfl,sb,ss⟩
  rw[show max (max ok 1) n=n by lia]at ss
  exact⟨rfl,b,rfl,sb,ss⟩
 case s1=>
  rintro k c st' k1 k2 ⟨rfl,b,rfl,sb,ss⟩
  have bz:=sb.size
  have ik:lo+k < b.size:=by lia
  refine wpS_bind (wpS_mono (wpS_forRange (I:=fun x c st'=>st'=SortSt.mk' κ b pd g none∧∃l r,c=(none,l,r)∧l≤r∧r≤k∧r+x≤k+l∧(∀i,i < l→Le O key (at' b (lo+i)) (at' b (lo+k)))∧(∀i,r≤i→i < k→Le O key (at' b (lo+k)) (at' b (lo+i))))
   (Q:=fun c st'=>st'=SortSt.mk' κ b pd g none∧∃l,c=(none,l,l)∧l≤k∧(∀i,i < l→Le O key (at' b (lo+i)) (at' b (lo+k)))∧(∀i,l≤i→i < k→Le O key (at' b (lo+k)) (at' b (lo+i)))) ?t1 ?t2 ⟨rfl,0,k,rfl,by exact Nat.zero_le _,by exact fQ _,by(solve_by_elim (maxDepth:=3) only[*,kb,kj,Nat.lt_of_le_of_lt,kE,Nat.add_le_add_left,Nat.add_lt_add_left,pB,Nat.lt_of_succ_lt]),fun i hi=>by lia,fun i h1 h2=>by lia⟩) ?t3)
  case t2=>
   rintro c st' ⟨rfl,l,r,rfl,p1,p2,p3,p4,p5⟩
   have:l=r:=by lia
   subst this
   exact⟨rfl,l,rfl,p2,p4,p5⟩
  case t1=>
   rintro x c st' - x2 ⟨rfl,l,r,rfl,p1,p2,p3,p4,p5⟩
   dsimp only
   refine iA (fun z=>?_) (fun z=>?_)
   ·have:l=r:=by exact Nat.le_antisymm ‹_› ‹_›
    subst this
    exact wpS_pure ⟨rfl,l,rfl,p2,p4,p5⟩
   ·have im:lo+(l+r) / 2 < b.size:=by lia
    refine wpS_bind (mD C (sb.dom da) ik im ?_)
    cases e:O.blt (key (at' b (lo+k))) (key (at' b (lo+(l+r) / 2)))with
    |true=>exact wpS_pure ⟨rfl,l,(l+r) / 2,rfl,by lia,by lia,by lia,p4,fun i r1 r2=>(Le.of e).trans (ss.le (by exact pB _ _) (by exact Nat.add_le_add_left ‹_› _) (by exact Nat.add_lt_add_left ‹_› _))⟩
    |false=>exact wpS_pure ⟨rfl,(l+r) / 2+1,r,rfl,by lia,by assumption,by lia,fun i r1=>(ss.le (by exact pB _ _) (by lia) (by lia):Le O key (at' b (lo+i)) (at' b (lo+(l+r) / 2))).trans e,p5⟩
  case t3=>
   rintro c st' ⟨rfl,l,rfl,p2,p4,p5⟩
   refine wpS_bind (Ez (wpS_pure ⟨rfl,_,rfl,sb.trans (Sx.bub (k:=lo+k) (n:=lo+k - (lo+l)) ik (by exact Nat.sub_le _ _) (by lia) (by exact Nat.add_lt_add_left ‹_› _)),fun i j r1 r2 r3=>?_⟩))
   have q4:∀i,lo≤i→i < lo+l→Le O key (at' b i) (at' b (lo+k)):=fun i u1 u2=>by have:=p4 (i - lo) (by exact Nat.sub_lt_left_of_lt_add ‹_› ‹_›);rwa [show lo+(i - lo)=i by exact Nat.add_sub_of_le ‹_›]at this
   have q5:∀i,lo+l≤i→i < lo+k→Le O key (at' b (lo+k)) (at' b i):=fun i u1 u2=>by have:=p5 (i - lo) (by exact Nat.le_sub_of_add_le' ‹_›) (by lia);rwa [show lo+(i - lo)=i by exact Nat.add_sub_of_le (kb (pB _ _) ‹_›)]at this
   show Le O key (at' (bubble b (lo+k) (lo+k - (lo+l))) i) (at' (bubble b (lo+k) (lo+k - (lo+l))) j)
   rw[vb ik (by exact Nat.sub_le _ _),vb ik (by exact Nat.sub_le _ _),show lo+k - (lo+k - (lo+l))=lo+l by lia]
   repeat' split
   all_goals first
    |(exfalso;lia)
    |exact q4 _ (by assumption) (by(first |exact Nat.lt_of_lt_of_eq ‹_› ‹_› |lia))
    |exact q5 _ (by(first |exact Nat.add_le_add_left ‹_› _ |lia)) (by lia)
    |exact ss _ _ (by(first |assumption |lia)) (by(first |assumption |lia)) (by lia)
theorem vd(C:Cmp prog w A s κ O key dom){lo nrem:Nat}{Q:Option Nat→SortSt→Prop}(da:∀x∈a.toList,dom x)(h1:1≤nrem)(hz:lo+nrem≤a.size)
  (h:∀m b,1≤m→m≤nrem→Sx a b lo (lo+nrem)→So O key b lo (lo+m)→Q (some m) (SortSt.mk' κ b pd g none)):wpS (model prog w) A E s (countRun' lo nrem) Q (SortSt.mk' κ a pd g none):=by
 refine wpS_bind (De (O:=O) (key:=key) (a:=a) (lo:=lo) (n0:=1) (nrem:=nrem) (fQ _) h1 (fun i j r1 r2 r3=>by lia) (fun x n R n1 n2 hR=>?_) fun n q1 q2 q3 q4=>?_)
 ·refine wpS_bind (mD C da (show lo+n < a.size by lia) (show lo+n - 1 < a.size by lia) ?_)
  cases e:O.blt (key (at' a (lo+n))) (key (at' a (lo+n - 1)))with
  |true=>rw[e]at hR;exact wpS_pure hR
  |false=>rw[e]at hR;exact wpS_pure hR
 dsimp -zeta only
 by_cases z:(n == nrem)=true
 ·exact bq z (wpS_pure (h n a q1 q2 .refl q3))
 refine bj z ?_
 have z':n < nrem:=by simp at z;exact Nat.lt_of_le_of_ne ‹_› ‹_›
 have sn:=q4 z'
 extract_lets
 rename Unit→_=>jp
 have J:∀b,Sx a b lo (lo+nrem)→Dn O key b lo (lo+n+1)→wpS (model prog w) A E s (jp ()) Q (SortSt.mk' κ b pd g none):=by
  intro b sb db
  refine wpS_bind (wpS_lift (wpAny_rule ⟨rfl,?_⟩))
  refine wpS_bind (wpS_mono (wpS_forRange (I:=fun x c st'=>∃b q,st'=SortSt.mk' κ b pd g none∧Sx a b lo (lo+nrem)∧c=(none,x,q)∧q+1≤x∧n+1≤x∧Dn O key b lo (lo+x)∧Eqs O key b (lo+x) q)
   (Q:=fun c st'=>∃b m q,st'=SortSt.mk' κ b pd g none∧Sx a b lo (lo+nrem)∧c=(none,m,q)∧q+1≤m∧m≤nrem∧Dn O key b lo (lo+m)∧Eqs O key b (lo+m) q) ?s1 ?s2 ⟨b,0,rfl,sb,rfl,by exact uB ‹_›,by exact Nat.lt_succ_self _,db,Eqs.one⟩) ?s3)
  case s2=>
   rintro c st' ⟨b,q,rfl,sb,rfl,p1,p2,p3,p4⟩
   rw[show max (n+1) nrem=nrem by exact Nat.max_eq_right ‹_›]at *
   exact⟨b,nrem,q,rfl,sb,rfl,p1,fQ _,p3,p4⟩
  case s1=>
   rintro x c st' x1 x2 ⟨b,q,rfl,sb,rfl,p1,p2,p3,p4⟩
   have bz:=sb.size
   have i1:lo+x < b.size:=by lia
   have i2:lo+x - 1 < b.size:=by exact Nat.lt_of_le_of_lt (Nat.sub_le _ _) ‹_›
   refine wpS_bind (mD C (sb.dom da) i1 i2 ?_)
   cases e:O.blt (key (at' b (lo+x))) (key (at' b (lo+x - 1)))with
   |true=>
    dsimp only
    rw[if_pos rfl]
    refine iA (fun z=>?_) (fun z=>?_)
    ·refine wpS_bind (wq (wpS_pure ⟨_,0,rfl,sb.trans (Sx.rev (by lia) (by lia) (by exact kE ‹_›)),rfl,by exact Nat.le_add_left _ _,by exact uB ‹_›,?_,Eqs.one⟩))
     refine(p3.rev p4 (by exact kE ‹_›) (by exact Nat.add_lt_add_left ‹_› _)).step (by lia) ?_
     rw[iW (by exact kE ‹_›),iW (by exact kE ‹_›),if_neg (by lia),if_pos (by lia)]
     exact(Le.of e).trans (p4 _ (by lia) (by lia)).2
    ·exact wpS_pure ⟨b,0,rfl,sb,rfl,by exact Nat.le_add_left _ _,by exact uB ‹_›,p3.step (by lia) (Le.of e),Eqs.one⟩
   |false=>
    dsimp only
    rw[if_neg (by simp)]
    refine wpS_bind (mD C (sb.dom da) i2 i1 ?_)
    cases e':O.blt (key (at' b (lo+x - 1))) (key (at' b (lo+x)))with
    |true=>exact wpS_pure ⟨b,x,q,rfl,sb,rfl,p1,by exact kE ‹_›,p3,p4⟩
    |false=>
     refine wpS_pure ⟨b,q+1,rfl,sb,rfl,by exact Nat.succ_lt_succ ‹_›,by exact uB ‹_›,p3.step (by lia) e',fun i r1 r2=>?_⟩
     show Le O key (at' b i) (at' b (lo+x))∧Le O key (at' b (lo+x)) (at' b i)
     by_cases c:i=lo+x
     ·rw[c];exact⟨Le.refl _,Le.refl _⟩
     ·obtain⟨u1,u2⟩:=p4 i (by lia) (by lia)
      exact⟨u1.trans e,Le.trans e' u2⟩
  case s3=>
   rintro c st' ⟨b,m,q,rfl,sb,rfl,p1,p2,p3,p4⟩
   have bz:=sb.size
   dsimp -zeta only
   extract_lets
   rename Unit→_=>jp2
   have J2:∀b,Sx a b lo (lo+nrem)→Dn O key b lo (lo+m)→wpS (model prog w) A E s (jp2 ()) Q (SortSt.mk' κ b pd g none):=by
    intro b sb db
    have bz:=sb.size
    refine wpS_bind (wq ?_)
    have sc:=sb.trans (Sx.rev (a:=b) (i:=lo) (j:=lo+m) (fQ lo) (show lo+m≤lo+nrem by exact Nat.add_le_add_left ‹_› _) (by lia))
    have cz:=sc.size
    have ss:=db.flip (by lia)
    revert sc cz ss
    generalize mirror b lo (lo+m) ((lo+m - lo) / 2)=c
    intro sc cz ss
    refine wpS_bind (De (O:=O) (key:=key) (a:=c) (lo:=lo) (n0:=m) (nrem:=nrem) (by exact kb (Nat.le_add_left _ _) ‹_›) p2 ss (fun x n R n1 n2 hR=>?_) fun n q1 q2 q3 q4=>?_)
    ·refine wpS_bind (mD C (sc.dom da) (show lo+n < c.size by lia) (show lo+n - 1 < c.size by lia) ?_)
     cases e:O.blt (key (at' c (lo+n))) (key (at' c (lo+n - 1)))with
     |true=>rw[e]at hR;exact wpS_pure hR
     |false=>rw[e]at hR;exact wpS_pure hR
    ·exact wpS_pure (h n c (by lia) q2 sc q3)
   clear_value jp2
   refine iA (fun z=>?_) (fun z=>?_)
   ·exact wpS_bind (wq (J2 _ (sb.trans (Sx.rev (a:=b) (i:=lo+m - (q+1)) (j:=lo+m) (by lia) (by exact Nat.add_le_add_left ‹_› _) (by lia))) (Dn.rev (hi:=lo+m) (q:=q) p3 p4 (by lia) (by exact Nat.add_lt_add_left ‹_› _))))
   ·exact J2 b sb p3
 clear_value jp
 refine iA (fun c=>?_) (fun c=>?_)
 ·refine wpS_bind (mD C da (show lo < a.size by lia) (show lo+n - 1 < a.size by lia) ?_)
  cases e:O.blt (key (at' a lo)) (key (at' a (lo+n - 1)))with
  |true=>exact wpS_pure (h n a q1 q2 .refl q3)
  |false=>
   refine wpS_bind (wq (J _ (Sx.rev (fQ _) (by exact Nat.add_le_add_left ‹_› _) (by lia)) fun i j r1 r2 r3=>?_))
   have all:∀x y,lo≤x→x < lo+n→lo≤y→y < lo+n→Le O key (at' a x) (at' a y):=fun x y x1 x2 y1 y2=>
    ((q3.le x1 (by lia) (by lia):Le O key (at' a x) (at' a (lo+n - 1))).trans e).trans (q3.le (fQ _) y1 y2)
   rw[iW (by lia),iW (by lia),if_pos (show lo≤i∧i < lo+n by lia)]
   by_cases c':j < lo+n
   ·rw[if_pos (by lia)]
    exact all _ _ (by lia) (by lia) (by lia) (by lia)
   ·rw[if_neg (by exact fun h=>‹¬_› h.2),show j=lo+n by lia]
    exact(Le.of sn).trans (all _ _ (by lia) (by lia) (by lia) (by lia))
 ·refine J a .refl fun i j r1 r2 r3=>?_
  rw[show i=lo+n - 1 by lia,show j=lo+n by lia]
  exact Le.of sn
end
end NhLS
namespace NhLS
set_option autoImplicit false
open PySem PyProof.Rows
def Ch(O:KeyOrd)(key:Keyed→O.α)(a:Array Keyed):List (Nat×Nat×Nat)→Nat→Nat→Prop
 |[],p,e=>p=e
 |t::l,p,e=>t.1=p∧1≤t.2.1∧So O key a p (p+t.2.1)∧Ch O key a l (p+t.2.1) e
section
variable {O:KeyOrd} {key:Keyed→O.α} {a b:Array Keyed}
theorem Ch.app:∀{l l':List (Nat×Nat×Nat)} {p e:Nat},Ch O key a (l++l') p e→∃m,Ch O key a l p m∧Ch O key a l' m e
 |[],_,p,e,h=>⟨p,rfl,h⟩
 |t::l,_,p,e,h=>by
  obtain⟨m,h1,h2⟩:=Ch.app h.2.2.2
  exact⟨m,⟨h.1,h.2.1,h.2.2.1,h1⟩,h2⟩
theorem Ch.join:∀{l l':List (Nat×Nat×Nat)} {p m e:Nat},Ch O key a l p m→Ch O key a l' m e→Ch O key a (l++l') p e
 |[],_,p,m,e,h1,h2=>by rw[show p=m from h1];exact h2
 |t::l,_,p,m,e,h1,h2=>⟨h1.1,h1.2.1,h1.2.2.1,Ch.join h1.2.2.2 h2⟩
theorem Ch.le:∀{l:List (Nat×Nat×Nat)} {p e:Nat},Ch O key a l p e→p+l.length≤e
 |[],p,e,h=>by rw[show p=e from h];exact fQ _
 |t::l,p,e,h=>by
  have:=Ch.le h.2.2.2
  have:=h.2.1
  rw[List.length_cons]
  lia
theorem Ch.ext:∀{l:List (Nat×Nat×Nat)} {p e:Nat},Ch O key a l p e→(∀j,p≤j→j < e→at' b j=at' a j)→Ch O key b l p e
 |[],p,e,h,_=>h
 |t::l,p,e,h,q=>by
  have:=Ch.le h.2.2.2
  exact⟨h.1,h.2.1,h.2.2.1.ext fun j h1 h2=>q j h1 (by lia),Ch.ext h.2.2.2 fun j h1 h2=>q j (by exact kb (pB _ _) ‹_›) h2⟩
theorem Ch.map:∀{l l':List (Nat×Nat×Nat)} {p e:Nat},Ch O key a l p e→l'.map (fun t=>(t.1,t.2.1))=l.map (fun t=>(t.1,t.2.1))→Ch O key a l' p e
 |[],l',p,e,h,q=>by
  cases l' with
  |nil=>exact h
  |cons _ _=>simp at q
 |t::l,l',p,e,h,q=>by
  cases l' with
  |nil=>simp at q
  |cons t' l'=>
   simp only[dN,List.cons.injEq,Prod.mk.injEq]at q
   refine⟨q.1.1.trans h.1,by rw[q.1.2];exact h.2.1,by rw[q.1.2];exact h.2.2.1,?_⟩
   rw[q.1.2]
   exact Ch.map h.2.2.2 q.2
theorem B9(f:Nat×Nat×Nat→Nat×Nat×Nat)(hf:∀t,(f t).1=t.1∧(f t).2.1=t.2.1)(l:List (Nat×Nat×Nat))(k:Nat):(l.modify k f).map (fun t=>(t.1,t.2.1))=l.map (fun t=>(t.1,t.2.1)):=by
 refine List.ext_getElem? fun j=>?_
 rw[List.getElem?_map,List.getElem?_map,List.getElem?_modify]
 cases l[j]? with
 |none=>rfl
 |some t=>
  by_cases e:k=j
  ·simp[e,hf t]
  ·simp[e]
theorem Ch.one{p n w:Nat}(h:So O key a p (p+n))(h1:1≤n):Ch O key a [(p,n,w)] p (p+n):=⟨rfl,h1,h,rfl⟩
end
section
variable {prog:Program} {w:World} {A:Around} {E:Value→Shared→Prop} {s:Shared} {κ:SortKind} {O:KeyOrd} {key:Keyed→O.α} {dom:Keyed→Prop} {a:Array Keyed} {pd:Array (Nat×Nat×Nat)} {g:Nat}
theorem ql(C:Cmp prog w A s κ O key dom){i lo:Nat}{Q:Bool→SortSt→Prop}(da:∀x∈a.toList,dom x)(hi:i+1 < pd.size)(hz:lo≤a.size)(hc:Ch O key a pd.toList 0 lo)
  (h:∀b pd' g',b.toList.Perm a.toList→(∀j,lo≤j→at' b j=at' a j)→Ch O key b pd'.toList 0 lo→pd'.size+1=pd.size→Q true (SortSt.mk' κ b pd' g' none)):wpS (model prog w) A E s (mergeAt' i) Q (SortSt.mk' κ a pd g none):=by
 have el:pd.toList=pd.toList.take i++(pd[i]::pd[i+1]::pd.toList.drop (i+2)):=by
  conv=>lhs;rw[←List.take_append_drop i pd.toList]
  congr 1
  rw[List.drop_eq_getElem_cons (by simp;exact Nat.lt_of_succ_lt ‹_›),List.drop_eq_getElem_cons (by simp;assumption)]
  simp
 have e1:pd[i]? =some pd[i]:=getElem?_pos ..
 have e2:pd[i+1]? =some pd[i+1]:=getElem?_pos ..
 revert el e1 e2
 generalize pd[i]=t1
 generalize pd[i+1]=t2
 intro el e1 e2
 obtain⟨sa,na,w1⟩:=t1
 obtain⟨sb,nb,w2⟩:=t2
 have li:(pd.toList.take i).length=i:=by simp;lia
 revert el li
 generalize pd.toList.take i=pre
 generalize pd.toList.drop (i+2)=post
 intro el li
 rw[el]at hc
 obtain⟨m,c1,c2⟩:=hc.app
 obtain⟨u1,u2,u3,v1,v2,v3,c3⟩:=c2
 simp only at u1 u2 u3 v1 v2 v3 c3
 subst u1
 subst v1
 have le3:=c3.le
 refine xF C (fun i hi=>da _ (kO hi)) e1 e2 u2 v2 (by lia) u3 v3 fun b g' pb ob sb=>h b _ g' pb (fun j hj=>ob j (.inr (by lia))) ?_ ?_
 ·have:((pd.setIfInBounds i (sa,na+nb,w1)).eraseIdxIfInBounds (i+1)).toList=pre++((sa,na+nb,w1)::post):=by
   have hs:i+1 < (pd.setIfInBounds i (sa,na+nb,w1)).size:=by simpa using hi
   rw[Array.eraseIdxIfInBounds,dif_pos hs,Array.toList_eraseIdx,Array.toList_setIfInBounds,el]
   subst li
   simp[List.eraseIdx_append_of_length_le]
  rw[this]
  refine(c1.ext fun j _ hj=>ob j (.inl hj)).join ⟨rfl,by show 1≤na+nb;exact Nat.lt_add_right _ ‹_›,by rw[←Nat.add_assoc];exact sb,?_⟩
  show Ch O key b post (sa+(na+nb)) lo
  rw[←Nat.add_assoc]
  exact c3.ext fun j hj _=>ob j (.inr hj)
 ·have hs:i+1 < (pd.setIfInBounds i (sa,na+nb,w1)).size:=by simpa using hi
  rw[Array.eraseIdxIfInBounds,dif_pos hs,Array.size_eraseIdx]
  simp
  lia
theorem zI{c:Prop}[Decidable c]{x y:Nat}{Q:Bool→SortSt→Prop}{st:SortSt}(h:∀i,i=x∨i=y→wpS (model prog w) A E s (mergeAt' i) Q st):wpS (model prog w) A E s (mergeAt' (if c then x else y)) Q st:=by
 split
 ·exact h _ (.inl rfl)
 ·exact h _ (.inr rfl)
theorem ve(C:Cmp prog w A s κ O key dom){Q:Unit→SortSt→Prop}(da:∀x∈a.toList,dom x)(h:∀b pd' g',b.toList.Perm a.toList→So O key b 0 a.size→Q () (SortSt.mk' κ b pd' g' none)):wpS (model prog w) A E s sortRuns' Q (SortSt.mk' κ a #[] g none):=by
 refine wpS_bind (wpS_get ?_)
 refine wpS_bind (wpS_mono (wpS_forRange (I:=fun x c st'=>∃b lo pd g,st'=SortSt.mk' κ b pd g none∧b.toList.Perm a.toList∧c=(none,lo)∧lo≤a.size∧(x≤lo∨lo=a.size)∧Ch O key b pd.toList 0 lo)
  (Q:=fun c st'=>∃b pd g,st'=SortSt.mk' κ b pd g none∧b.toList.Perm a.toList∧c=(none,a.size)∧Ch O key b pd.toList 0 a.size) ?s1 ?s2 ⟨a,0,#[],g,rfl,List.Perm.refl _,rfl,by exact Nat.zero_le _,by(solve_by_elim (maxDepth:=3) only[*,kb,kj,Nat.lt_of_le_of_lt,kE]),rfl⟩) ?s3)
 case s2=>
  rintro c st' ⟨b,lo,pd,g,rfl,p1,rfl,p2,p3,p4⟩
  have:lo=a.size:=by
   rcases p3 with p3 |p3
   ·have p3':max 0 a.size≤lo:=p3
    exact Nat.le_antisymm ‹_› ‹_›
   ·exact p3
  subst this
  exact⟨b,pd,g,rfl,p1,rfl,p4⟩
 case s1=>
  rintro x c st' - x2 ⟨b,lo,pd,g,rfl,p1,rfl,p2,p3,p4⟩
  have bz:b.size=a.size:=by have:=p1.length_eq;simpa using this
  refine Ex fun R hR=>?_
  have Rd:∀b pd g,b.toList.Perm a.toList→Ch O key b pd.toList 0 a.size→R (.done (none,a.size)) (SortSt.mk' κ b pd g none):=fun b pd g q1 q2=>by rw[hR];exact⟨b,pd,g,rfl,q1,rfl,q2⟩
  have Ry:∀b lo pd g,b.toList.Perm a.toList→lo≤a.size→(x+1≤lo∨lo=a.size)→Ch O key b pd.toList 0 lo→R (.yield (none,lo)) (SortSt.mk' κ b pd g none):=fun b lo pd g q1 q2 q3 q4=>by rw[hR];exact⟨b,lo,pd,g,rfl,q1,rfl,q2,q3,q4⟩
  clear hR
  dsimp -zeta only
  extract_lets
  refine iA (fun z=>?_) (fun z=>?_)
  ·have:lo=a.size:=by exact Nat.le_antisymm ‹_› ‹_›
   subst this
   exact wpS_pure (Rd b pd g p1 p4)
  have z':lo < a.size:=by exact Nat.lt_of_not_le ‹_›
  refine wpS_bind (vd C (fun x hx=>da x (p1.mem_iff.mp hx)) (lo:=lo) (nrem:=a.size - lo) (by exact Nat.sub_pos_of_lt ‹_›) (by lia) fun n c n1 n2 sc ss=>?_)
  dsimp -zeta only
  extract_lets
  rename Unit→Nat→_=>jp
  have J:∀(n:Nat) (c:Array Keyed),1≤n→n≤a.size - lo→Sx b c lo (lo+(a.size - lo))→So O key c lo (lo+n)→wpS (model prog w) A E s (jp () n) R (SortSt.mk' κ c pd g none):=by
   intro n c n1 n2 sc ss
   have cp:c.toList.Perm a.toList:=sc.perm.trans p1
   have ch:Ch O key c pd.toList 0 lo:=p4.ext fun j _ hj=>sc.out j (.inl hj)
   refine wpS_bind (wpS_get ?_)
   dsimp -zeta only
   extract_lets
   rename Unit→_=>jq
   have K:∀c pd g,c.toList.Perm a.toList→Ch O key c pd.toList 0 lo→So O key c lo (lo+n)→wpS (model prog w) A E s (jq ()) R (SortSt.mk' κ c pd g none):=by
    intro c pd g cp ch ss
    refine wpS_bind (wpS_modify (wpS_pure (Ry c (lo+n) (pd.push (lo,n,0)) g cp (by lia) (by lia) ?_)))
    rw[Array.toList_push]
    exact ch.join (Ch.one ss n1)
   clear_value jq
   cases eb:pd.back? with
   |none=>exact K c pd g cp ch ss
   |some t=>
    dsimp -zeta only
    refine wpS_bind (wpS_mono (wpS_forRange (I:=fun x r st'=>r=(none,())∧∃c pd g,st'=SortSt.mk' κ c pd g none∧c.toList.Perm a.toList∧Ch O key c pd.toList 0 lo∧So O key c lo (lo+n))
     (Q:=fun r st'=>r=(none,())∧∃c pd g,st'=SortSt.mk' κ c pd g none∧c.toList.Perm a.toList∧Ch O key c pd.toList 0 lo∧So O key c lo (lo+n)) ?t1 (fun _ _ q=>q) ⟨rfl,c,pd,g,rfl,cp,ch,ss⟩) ?t3)
    case t3=>
     rintro r st' ⟨rfl,c,pd,g,rfl,cp,ch,ss⟩
     refine wpS_bind (wpS_modify (K c _ g cp (ch.map ?_) ss))
     rw[Array.toList_modify]
     refine B9 _ ?_ _ _
     exact fun _=>⟨rfl,rfl⟩
    case t1=>
     rintro y r st' - - ⟨rfl,c,pd,g,rfl,cp,ch,ss⟩
     refine wpS_bind (wpS_get ?_)
     dsimp only
     by_cases pz:pd.size > 1
     ·rw[if_pos pz,getElem?_pos pd (pd.size - 2) (by lia)]
      refine iA (fun _=>?_) (fun _=>?_)
      ·exact wpS_pure ⟨rfl,c,pd,g,rfl,cp,ch,ss⟩
      ·have cz:c.size=a.size:=by have:=cp.length_eq;simpa using this
       refine wpS_bind (ql C (fun x hx=>da x (cp.mem_iff.mp hx)) (i:=pd.size - 2) (lo:=lo) (by lia) (by lia) ch fun d pd' g' dp od dc _=>?_)
       exact wpS_pure ⟨rfl,d,pd',g',rfl,dp.trans cp,dc,ss.ext fun j j1 _=>od j j1⟩
     ·rw[if_neg pz]
      exact wpS_pure ⟨rfl,c,pd,g,rfl,cp,ch,ss⟩
  clear_value jp
  refine iA (fun y=>?_) (fun y=>?_)
  ·refine wpS_bind (wpS_lift (wpAny_rule ⟨rfl,?_⟩))
   have cz:=sc.size
   refine wpS_bind (rP C (a:=c) (lo:=lo) (n:=min (a.size - lo) (minRun' a.size a.size 0)) (ok:=n) (fun x hx=>da x (p1.mem_iff.mp (sc.perm.mem_iff.mp hx))) n1 (by have y':n < minRun' a.size a.size 0:=y;lia) (by lia) ss fun d sd ds=>?_)
   refine bj (by simp) ?_
   exact J _ d (by have y':n < minRun' a.size a.size 0:=y;lia) (by lia) (sc.trans ⟨sd.perm,fun j hj=>sd.out j (by lia)⟩) ds
  ·exact J n c n1 n2 sc ss
 case s3=>
  rintro c st' ⟨b,pd,g,rfl,p1,rfl,p2⟩
  refine wpS_bind (wpS_mono (wpS_forRange (I:=fun x r st'=>r=(none,())∧∃c pd g,st'=SortSt.mk' κ c pd g none∧c.toList.Perm a.toList∧Ch O key c pd.toList 0 a.size∧(pd.size+x≤a.size∨pd.size≤1))
   (Q:=fun r st'=>r=(none,())∧∃c pd g,st'=SortSt.mk' κ c pd g none∧c.toList.Perm a.toList∧Ch O key c pd.toList 0 a.size∧pd.size≤1) ?t1 ?t2 ⟨rfl,b,pd,g,rfl,p1,p2,.inl (by have:=p2.le;simp at this;assumption)⟩) ?t3)
  case t2=>
   rintro r st' ⟨rfl,c,pd,g,rfl,cp,ch,hz⟩
   refine⟨rfl,c,pd,g,rfl,cp,ch,?_⟩
   rcases hz with hz |hz
   ·have hz':pd.size+max 0 a.size≤a.size:=hz
    lia
   ·exact hz
  case t1=>
   rintro y r st' - - ⟨rfl,c,pd,g,rfl,cp,ch,hz⟩
   refine wpS_bind (wpS_get ?_)
   refine iA (fun z=>?_) (fun z=>?_)
   ·exact wpS_pure ⟨rfl,c,pd,g,rfl,cp,ch,z⟩
   ·have z':1 < pd.size:=Nat.lt_of_not_le z
    have cz:c.size=a.size:=by have:=cp.length_eq;simpa using this
    extract_lets
    refine wpS_bind (zI fun i hi=>?_)
    refine ql C (fun x hx=>da x (cp.mem_iff.mp hx)) (i:=i) (lo:=a.size) ?_ (by exact Nat.le_of_eq (Eq.symm ‹_›)) ch fun d pd' g' dp od dc dz=>?_
    ·rcases hi with rfl |rfl
     ·show pd.size - 2 - 1+1 < pd.size
      lia
     ·show pd.size - 2+1 < pd.size
      lia
    ·exact wpS_pure ⟨rfl,d,pd',g',rfl,dp.trans cp,dc,by lia⟩
  case t3=>
   rintro r st' ⟨rfl,c,pd,g,rfl,cp,ch,hz⟩
   refine wpS_pure (h c pd g cp ?_)
   obtain⟨l⟩:=pd
   match l,hz,ch with
   |[],_,ch=>
    have:0=a.size:=ch
    rw[←this]
    exact fun i j _ _ q=>by lia
   |[t],_,ch=>
    obtain⟨_,_,s1,e⟩:=ch
    have e':0+t.2.1=a.size:=e
    rw[e']at s1
    exact s1
   |_::_::_,hz,_=>simp at hz
end
end NhLS
namespace NhSG
set_option autoImplicit false
open PySem PyProof PyProof.Rows PySem.W
def Keep(h h':Heap):Prop:=∀b o,h.get? b=some o→h'.get? b=some o
theorem Keep.refl(h:Heap):Keep h h:=fun _ _ e=>e
theorem Keep.trans{h h1 h2:Heap}(a:Keep h h1)(b:Keep h1 h2):Keep h h2:=fun c o e=>b c o (a c o e)
def IsKy(hp:Heap)(v:Value)(y:Ky):Prop:=∃c o xs k t z u,v=.ref c∧hp.get? c=some o∧o.cls=.type "tuple"∧o.data=.seq xs k∧xs.toList=[.int y.1 t,.str z u]∧y.2=z.cps.toList
theorem IsKy.keep{h h':Heap}{v:Value}{y:Ky}(a:IsKy h v y)(k:Keep h h'):IsKy h' v y:=by
 obtain⟨c,o,xs,n,t,z,u,e,ho,r⟩:=a
 exact⟨c,o,xs,n,t,z,u,e,k c o ho,r⟩
theorem IsKy.key{h:Heap}{v:Value}{y:Ky}(a:IsKy h v y):pJ h v=some y:=by
 obtain⟨c,o,xs,n,t,z,u,rfl,ho,hc,hd,hx,e⟩:=a
 rw[BZ ho hd hx,←e]
def KA(hp:Heap):List Value→List Ky→Prop
 |[],[]=>True
 |v::vs,y::ys=>IsKy hp v y∧KA hp vs ys
 |_,_=>False
theorem KA.keep{h h':Heap}(k:Keep h h'):∀{vs:List Value} {ys:List Ky},KA h vs ys→KA h' vs ys
 |[],[],_=>trivial
 |v::vs,y::ys,a=>⟨a.1.keep k,KA.keep k a.2⟩
 |[],_::_,a=>a.elim
 |_::_,[],a=>a.elim
theorem KA.len{h:Heap}:∀{vs:List Value} {ys:List Ky},KA h vs ys→vs.length=ys.length
 |[],[],_=>rfl
 |v::vs,y::ys,a=>by simp[KA.len a.2]
 |[],_::_,a=>a.elim
 |_::_,[],a=>a.elim
theorem KA.snoc{h:Heap}{v:Value}{y:Ky}(b:IsKy h v y):∀{vs:List Value} {ys:List Ky},KA h vs ys→KA h (vs++[v]) (ys++[y])
 |[],[],_=>⟨b,trivial⟩
 |_::_,_::_,a=>⟨a.1,KA.snoc b a.2⟩
 |[],_::_,a=>a.elim
 |_::_,[],a=>a.elim
theorem KA.tups{h:Heap}:∀{vs:List Value} {ys:List Ky},KA h vs ys→∃fs,KatTups h vs fs∧(∀f∈fs,∃n t,f=.int n t)∧fs.length=vs.length
 |[],[],_=>⟨[],trivial,(fun _ z=>by cases z),rfl⟩
 |v::vs,y::ys,a=>by
  obtain⟨fs,t,hf,hl⟩:=KA.tups a.2
  obtain⟨c,o,xs,n,tk,z,u,rfl,ho,hc,hd,hx,e⟩:=a.1
  refine⟨.int y.1 tk::fs,KatTups.cons ho hc hd ?_ t,fun f hm=>?_,by simp[hl]⟩
  ·rw[←Array.getElem?_toList,hx]
   rfl
  ·rcases Zal.mp hm with rfl |hm
   ·exact⟨_,_,rfl⟩
   ·exact hf f hm
 |[],_::_,a=>a.elim
 |_::_,[],a=>a.elim
def xG(ys:List Ky)(vs out:List Value):Prop:=∃ps:List (Ky×Value),ps.Perm (ys.zip vs)∧ps.Pairwise (fun p q=>gL q.1 p.1=false)∧out=ps.map (·.2)
@[reducible] def tL (h:Heap) (p:Keyed):Ky:=(pJ h p.1).getD (0,[])
theorem G3{prog:Program}{w:World}{A:Around}{s:Shared}:NhLS.Cmp prog w A s (tuples' true) (gm s.heap).toKeyOrd (tL s.heap) (fun p=>∃y,pJ s.heap p.1=some y):=
 ⟨fun E x y Q ⟨a,ha⟩ ⟨b,hb⟩ hq=>by
  have hq':Q (gL (tL s.heap x) (tL s.heap y)) s:=hq
  unfold tL at hq'
  rw[ha,hb]at hq'
  exact B3 E x.1 y.1 a b ha hb hq'⟩
theorem KA.zip{h:Heap}:∀{ks:List Value} {ys:List Ky} {vs:List Value},KA h ks ys→(ks.zip vs).map (fun p=>(tL h p,p.2))=ys.zip vs
 |[],[],_,_=>by simp
 |k::ks,y::ys,[],_=>by simp
 |k::ks,y::ys,v::vs,a=>by
  simp only[List.zip_cons_cons,dN]
  rw[KA.zip a.2]
  congr 1
  show((pJ h k).getD (0,[]),v)=(y,v)
  rw[a.1.key]
  rfl
 |[],_::_,_,a=>a.elim
 |_::_,[],_,a=>a.elim
theorem KA.dom{h:Heap}{vs:List Value}:∀{ks:List Value} {ys:List Ky},KA h ks ys→∀p∈ks.zip vs,∃y,pJ h p.1=some y:=fun {ks ys} a p hp=>by
 have hk:p.1∈ks:=(List.of_mem_zip hp).1
 clear hp
 induction ks generalizing ys with
 |nil=>cases hk
 |cons k ks ih=>cases ys with
  |nil=>exact a.elim
  |cons y ys=>
   rcases Zal.mp hk with e |hk
   ·rw[e];exact⟨y,a.1.key⟩
   ·exact ih a.2 hk
theorem EA{h:Heap}{ks:List Value}{ys:List Ky}{vs:List Value}{b:Array Keyed}(hK:KA h ks ys)(hp:b.toList.Perm (ks.zip vs))(hs:NhLS.So (gm h).toKeyOrd (tL h) b 0 b.size):xG ys vs (b.map (·.2)).toList:=by
 refine⟨b.toList.map (fun p=>(tL h p,p.2)),?_,?_,?_⟩
 ·rw[←hK.zip (vs:=vs)]
  exact hp.map _
 ·rw[List.pairwise_map,List.pairwise_iff_getElem]
  intro i j hi hj hij
  rw[NhLS.iK,NhLS.iK]
  exact hs i j (Nat.zero_le _) hij (by simpa using hj)
 ·rw[Array.toList_map,List.map_map]
  rfl
section
variable {prog:Program} {w:World} {A:Around} {E:Value→Shared→Prop} {s:Shared} {a kS:Addr} {ks vs:List Value} {ys:List Ky} {e e1:Nat} {P:PySem.Fin→Shared→Prop}
theorem wt {st:SortSt} (hk:s.heap.get? kS=some (seqObj "list" ks.toArray e)) (ha:s.heap.get? a=some (seqObj "list" #[] e1)) (hka:kS≠a) (h64:vs.length < 65536) (hl:ks.length=vs.length) (hn:(arrOf st).size=vs.length) (hfl:failedOf st=none)
  (h:∀h' tk c,h'.get? a=some (seqObj "list" ((arrOf st).map (·.2)) c)→(∀b o,b≠a→b≠kS→s.heap.get? b=some o→h'.get? b=some o)→P (.done (.ret .none)) {s with heap:=h',toks:=tk}):
  wpAny (model prog w) A (ksk_tail a false e1 (.ref kS) st) P E s:=by
 have s1:=Heap.SameBut.update s.heap kS (Obj.mapSeq fun _=>(#[]:Array Value))
 have na1:(s.heap.update kS (Obj.mapSeq fun _=>(#[]:Array Value))).get? a=some (seqObj "list" #[] e1):=(s1.2 a hka.symm).trans ha
 have s2:=Heap.SameBut.update (s.heap.update kS (Obj.mapSeq fun _=>(#[]:Array Value))) a (Obj.mapSeq fun _=>(arrOf st).map (·.2))
 obtain⟨c2,hc2⟩:∃c2,((s.heap.update kS (Obj.mapSeq fun _=>(#[]:Array Value))).update a (Obj.mapSeq fun _=>(arrOf st).map (·.2))).get? a=some (seqObj "list" ((arrOf st).map (·.2)) c2):=⟨_,get?_update_seq na1 fun _=>(arrOf st).map (·.2)⟩
 unfold ksk_tail
 try dsimp only
 refine wpAny_bind (listUpdate_at hk rfl ?_ (by rw[l_,sizeLine_eq];omega) (Nat.zero_le _))
 refine wpAny_bind (wpAny_letGo ?_)
 refine wpAny_bind (seqEpoch_at na1 rfl ?_)
 simp only[bS]
 refine wpAny_bind (listUpdate_at na1 rfl ?_ (Nat.zero_le _) (by rw[Array.size_map,hn,sizeLine_eq];omega))
 rw[hfl]
 simp only[bne_self_eq_false,bS]
 exact wpAny_pure (h _ _ c2 hc2 fun b o h1 h2 q=>(s2.2 b h1).trans ((s1.2 b h2).trans q))
theorem EB (hK:KA s.heap ks ys) (hk:s.heap.get? kS=some (seqObj "list" ks.toArray e)) (ha:s.heap.get? a=some (seqObj "list" #[] e1)) (hka:kS≠a) (h64:vs.length < 65536) (hl:ks.length=vs.length)
  (h:∀h' tk out c,h'.get? a=some (seqObj "list" out c)→xG ys vs out.toList→(∀b o,b≠a→b≠kS→s.heap.get? b=some o→h'.get? b=some o)→P (.done (.ret .none)) {s with heap:=h',toks:=tk}):
  wpAny (model prog w) A (ksk_end a false vs.toArray e1 (.ref kS) ks.toArray) P E s:=by
 have hzs:(ks.toArray.zip vs.toArray).size=vs.length:=by rw[Array.size_zip,l_,l_,hl,Nat.min_self]
 unfold ksk_end
 try dsimp only
 simp only[bS]
 by_cases h2:vs.toArray.size < 2
 ·rw[if_pos h2,if_pos h2]
  refine wpAny_bind (wpAny_pure ?_)
  rw[StateT.run_pure]
  refine wpAny_bind (wpAny_pure ?_)
  try dsimp only
  refine wt (st:=SortSt.mk' general' (ks.toArray.zip vs.toArray) #[] 7 none) hk ha hka h64 hl hzs rfl fun h' tk c h1 h3=>h h' tk _ c h1 ⟨ys.zip vs,List.Perm.refl _,?_,?_⟩ h3
  ·rw[l_]at h2
   rw[List.pairwise_iff_getElem]
   intro i j hi hj hij
   simp at hj
   omega
  ·have e1:(ys.zip vs).map (·.2)=vs:=by rw[List.map_snd_zip];have:=hK.len;omega
   have e2:((arrOf (SortSt.mk' general' (ks.toArray.zip vs.toArray) #[] 7 none)).map (·.2)).toList=(ks.zip vs).map (·.2):=by
    show((ks.toArray.zip vs.toArray).map (·.2)).toList=_
    simp
   rw[e1,e2,List.map_snd_zip]
   omega
 ·rw[if_neg h2,if_neg h2]
  rw[l_]at h2
  obtain⟨fs,tt,hf,lf⟩:=hK.tups
  refine wpAny_bind (kat_kind (T:=.type "int") tt (by omega) (fun v hv=>?_) (by decide) ?_)
  ·obtain⟨n,t,rfl⟩:=hf v hv
   exact .now
  ·have run:=NhLS.ve (E:=E) (a:=ks.toArray.zip vs.toArray) (g:=7) (G3 (prog:=prog) (w:=w) (A:=A) (s:=s)) (Q:=fun _ st'=>∃b pd g,st'=SortSt.mk' (tuples' true) b pd g none∧b.toList.Perm (ks.zip vs)∧NhLS.So (gm s.heap).toKeyOrd (tL s.heap) b 0 b.size)
    (by simpa using hK.dom) fun b pd g hp hs=>⟨b,pd,g,rfl,by simpa using hp,by have:=hp.length_eq;simp only[uz]at this;rw[this];exact hs⟩
   refine wpAny_bind (wpAny_mono run ?_ fun _ _ e=>e)
   rintro⟨⟨⟩,st'⟩ s' ⟨es,b,pd,g,e,hp,hs⟩
   subst es
   dsimp only at e
   subst e
   try dsimp only
   have hz:b.size=vs.length:=by have:=hp.length_eq;simpa[hl]using this
   exact wt (st:=SortSt.mk' (tuples' true) b pd g none) hk ha hka h64 hl hz rfl fun h' tk c h1 h3=>h h' tk _ c h1 (EA hK hp hs) h3
def lG(prog:Program)(w:World)(A:Around)(f:Value)(s:Shared)(v:Value)(y:Ky):Prop:=∀(h:Heap) (tk:Nat),Keep s.heap h→
 wpAny (model prog w) A (call f [v]) (fun r s'=>∃h' tk',s'={s with heap:=h',toks:=tk'}∧Keep h h'∧IsKy h' r y) (fun _ _=>False) {s with heap:=h,toks:=tk}
theorem B_ {f:Value} {s0:Shared} (hs0:Keep s0.heap s.heap) (hss:∃tk,s={s0 with heap:=s.heap,toks:=tk}) (h0a:s0.heap.get? a=none) (h0k:s0.heap.get? kS=none) (hk:s.heap.get? kS=some (seqObj "list" #[] 0)) (ha:s.heap.get? a=some (seqObj "list" #[] e1)) (hka:kS≠a) (h64:vs.length < 65536) (hl:ys.length=vs.length)
  (turn:∀(i:Nat) (v:Value) (y:Ky),vs[i]? =some v→ys[i]? =some y→lG prog w A f s0 v y)
  (h:∀h' tk out c,h'.get? a=some (seqObj "list" out c)→xG ys vs out.toList→Keep s0.heap h'→P (.done (.ret .none)) {s0 with heap:=h',toks:=tk}):
  wpAny (model prog w) A (ksk_rest a f false vs.toArray e1 (.ref kS)) P E s:=by
 unfold ksk_rest
 refine wpAny_bind (wpAny_rule ?_)
 first
  |rw[List.forIn_toArray]
  |(rw[←Array.forIn_toList];simp only[List.toList_toArray])
  |rw[←Array.forIn_toList]
 obtain⟨tk0,es⟩:=hss
 refine wpAny_bind (ksk_fold (fun i s'=>∃h' tk kL e,s'={s0 with heap:=h',toks:=tk}∧Keep s0.heap h'∧h'.get? kS=some (seqObj "list" kL.toArray e)∧h'.get? a=some (seqObj "list" #[] e1)∧KA h' kL (ys.take i)) vs 0 s
  ⟨s.heap,tk0,[],0,es,hs0,hk,ha,by simp[KA]⟩ ?step ?done)
 case step=>
  rintro j x s' hx ⟨h',tk,kL,e,rfl,F',N1,N2,hK⟩
  simp only[Nat.zero_add]at hK ⊢
  have hj:j < vs.length:=(Zba.mp hx).1
  obtain⟨y,hyj⟩:∃y,ys[j]? =some y:=⟨_,uv (by omega)⟩
  have hz:kL.length≤vs.length:=by
   have h1:=hK.len
   rw[List.length_take]at h1
   omega
  refine wpAny_bind (wpAny_attempt (wpAny_mono (turn j x y hx hyj h' tk F') (fun v s'' he=>?_) fun _ _ hF=>hF.elim))
  obtain⟨g,tk2,rfl,kg,hy⟩:=he
  try dsimp only
  have nk:=kg _ _ N1
  have na:=kg _ _ N2
  have s1:=Heap.SameBut.update g kS (Obj.mapSeq (·.push v))
  obtain⟨c2,hc2⟩:∃c2,(g.update kS (Obj.mapSeq (·.push v))).get? kS=some (seqObj "list" (kL.toArray.push v) c2):=⟨_,get?_update_seq nk (·.push v)⟩
  have ek:ys.take (j+1)=ys.take j++[y]:=by rw[List.take_add_one,hyj];simp
  have ea:kL.toArray.push v=(kL++[v]).toArray:=by simp
  have ng:∀{ks':List Value} {ys':List Ky},KA g ks' ys'→KA (g.update kS (Obj.mapSeq (·.push v))) ks' ys':=fun {ks'} {ys'} q=>by
   induction ks' generalizing ys' with
   |nil=>cases ys' with
    |nil=>trivial
    |cons _ _=>exact q.elim
   |cons k ks' ih=>cases ys' with
    |nil=>exact q.elim
    |cons y' ys'=>
     refine⟨?_,ih q.2⟩
     obtain⟨c,o,xs,n,t,z,u,ec,ho,hcl,r⟩:=q.1
     refine⟨c,o,xs,n,t,z,u,ec,(s1.2 c ?_).trans ho,hcl,r⟩
     intro e3
     subst e3
     rw[nk]at ho
     cases ho
     have e4:Value.type "list"=Value.type "tuple":=hcl
     injection e4 with e5
     exact absurd e5 (by decide)
  refine wpAny_bind (listUpdate_at nk rfl ?_ (by rw[l_,sizeLine_eq];omega) (kb (Nat.le_of_eq (Array.size_push ..)) (by rw[l_,sizeLine_eq];omega)))
  refine wpAny_pure ⟨rfl,_,_,kL++[v],c2,rfl,fun b o q=>?_,by rw[←ea];exact hc2,(s1.2 a hka.symm).trans na,by rw[ek];exact ng (KA.snoc hy (hK.keep kg))⟩
  refine(s1.2 b fun e3=>?_).trans (kg _ _ (F' _ _ q))
  subst e3
  rw[h0k]at q
  cases q
 case done=>
  rintro s' ⟨h',tk,kL,e,rfl,F',N1,N2,hK⟩
  have e3:ys.take (0+vs.length)=ys:=List.take_of_length_le (by omega)
  rw[e3]at hK
  try dsimp only
  refine wpAny_bind (listItems_at N1 rfl ?_)
  refine EB (s:={s0 with heap:=h',toks:=tk}) hK N1 N2 hka h64 (by rw[hK.len,hl]) fun h3 tk3 out c g1 g2 g3=>h h3 tk3 out c g1 g2 fun b o q=>g3 b o ?_ ?_ (F' b o q)
  ·intro z;subst z;rw[h0a]at q;cases q
  ·intro z;subst z;rw[h0k]at q;cases q
theorem Ca {f:Value} {n:Nat} {s0:Shared} (hs0:Keep s0.heap s.heap) (hss:∃tk,s={s0 with heap:=s.heap,toks:=tk}) (h0a:s0.heap.get? a=none) (hle:s0.heap.objs.size≤s.heap.objs.size) (ho:s.heap.get? a=some (seqObj "list" vs.toArray n)) (h64:vs.length < 65536) (hl:ys.length=vs.length)
  (turn:∀(i:Nat) (v:Value) (y:Ky),vs[i]? =some v→ys[i]? =some y→lG prog w A f s0 v y)
  (h:∀h' tk out c,h'.get? a=some (seqObj "list" out c)→xG ys vs out.toList→Keep s0.heap h'→P (.done (.ret .none)) {s0 with heap:=h',toks:=tk}):
  wpAny (model prog w) A (ksk_tree a f false) P E s:=by
 have ha:a < s.heap.objs.size:=gE ho
 have s1:=Heap.SameBut.update s.heap a (Obj.mapSeq fun _=>(#[]:Array Value))
 obtain⟨e1,ho1⟩:∃e1,(s.heap.update a (Obj.mapSeq fun _=>(#[]:Array Value))).get? a=some (seqObj "list" #[] e1):=⟨_,get?_update_seq ho fun _=>#[]⟩
 have hkS:((s.heap.update a (Obj.mapSeq fun _=>(#[]:Array Value))).push (seqObj "tuple" vs.toArray 0)).objs.size=s.heap.objs.size+1:=by rw[size_push',Heap.size_update]
 obtain⟨tk0,es⟩:=hss
 unfold ksk_tree
 refine wpAny_bind (listItems_at ho rfl ?_)
 refine wpAny_bind (listUpdate_at ho rfl ?_ (by rw[l_,sizeLine_eq];omega) (Nat.zero_le _))
 refine wpAny_bind (seqEpoch_at ho1 rfl ?_)
 refine wpAny_bind (wpAny_newTuple ?_ (by show vs.length≤_;rw[sizeLine_eq];omega))
 refine wpAny_bind (wpAny_newList ?_ (Nat.zero_le _))
 refine wpAny_holding ?_
 refine B_ (s:={s with heap:=((s.heap.update a (Obj.mapSeq fun _=>(#[]:Array Value))).push (seqObj "tuple" vs.toArray 0)).push (seqObj "list" #[] 0)}) (kS:=((s.heap.update a (Obj.mapSeq fun _=>(#[]:Array Value))).push (seqObj "tuple" vs.toArray 0)).objs.size) (s0:=s0)
  (fun b o q=>?_) ⟨tk0,by rw[es]⟩ h0a (Heap.get?_none_of_le (by rw[hkS];omega)) (lh _ rfl) (gw _ (gw _ ho1)) (by rw[hkS];exact Nat.ne_of_gt (uB ha)) h64 hl turn h
 refine gw _ (gw _ ((s1.2 b fun z=>?_).trans (hs0 b o q)))
 subst z
 rw[h0a]at q
 cases q
end
end NhSG
namespace NhSG
set_option autoImplicit false
open PySem PyProof PyProof.Rows PySem.W
section
variable {prog:Program} {w:World} {A:Around} {E:Value→Shared→Prop} {s:Shared} {l q:Addr} {vs:List Value} {ys:List Ky} {Q:Value→Shared→Prop}
theorem vg(hl:s.heap.IsList l vs.toArray)(hlen:ys.length=vs.length)(h64:vs.length < 65536)
  (turn:∀(i:Nat) (v:Value) (y:Ky),vs[i]? =some v→ys[i]? =some y→lG prog w A.in1.in1 (.ref q) s v y)
  (h:∀D h' tk out c,h'.get? D=some (seqObj "list" out c)→s.heap.objs.size≤D→xG ys vs out.toList→Keep s.heap h'→Q (.ref D) {s with heap:=h',toks:=tk}):
  wpAny (model prog w) A (call (.builtin "sorted") [.ref l] [(Str.ofString "key",.ref q)]) Q E s:=by
 refine call_function_entry_kw kind_sorted plain_sorted entry_sorted (ksk_s1 _ _) ?_
 unfold Builtin.«sorted»
 refine wpAny_bind (m:=checkCount "sorted" 1 1 _) (wpAny_pure ?_)
 refine wpAny_bind (collect_list hl ?_ (by rw[sizeLine_eq];omega))
 refine wpAny_bind (wpAny_newList ?_ (by rw[sizeLine_eq];omega))
 have hsz:((s.heap.push (seqObj "list" #[] 0)).update s.heap.objs.size (Obj.mapSeq (· ++vs.toArray))).objs.size=s.heap.objs.size+1:=by
  rw[Heap.size_update,size_push']
 have hoL:(((s.heap.push (seqObj "list" #[] 0)).update s.heap.objs.size (Obj.mapSeq (· ++vs.toArray))).push (seqObj "list" vs.toArray 0)).get? (s.heap.objs.size+1)=some (seqObj "list" vs.toArray 0):=by
  rw[←hsz];exact lh _ rfl
 have keep:Keep s.heap (((s.heap.push (seqObj "list" #[] 0)).update s.heap.objs.size (Obj.mapSeq (· ++vs.toArray))).push (seqObj "list" vs.toArray 0)):=fun b o q=>by
  have hlt:b < s.heap.objs.size:=gE q
  rw[Heap.get?_push_ne _ _ _ (by rw[hsz];exact gI (uB hlt)),Heap.get?_update_ne _ _ _ _ (gI hlt),Heap.get?_push_ne _ _ _ (gI hlt)]
  exact q
 show wpAny _ _ _ _ _ {s with heap:=((s.heap.push (seqObj "list" #[] 0)).update s.heap.objs.size (Obj.mapSeq (· ++vs.toArray))).push (seqObj "list" vs.toArray 0)}
 rw[hsz]
 have h0:s.heap.get? (s.heap.objs.size+1)=none:=Heap.get?_none_of_le (Nat.le_succ _)
 refine wpAny_bind (wpAny_holding (wpAny_call_entry_kw slot_list_sort ⟨_,hoL,rfl⟩ entry_list_sort ?body (ksk_l1 _ _)))
 case body=>
  show wpAny (model prog w) A.in1.in1 (Builtin.«list.sort» ⟨[.ref (s.heap.objs.size+1)],[(Str.ofString "key",.ref q)]⟩) _ _ _
  rw[ksk_t1]
  refine Ca (s:={s with heap:=((s.heap.push (seqObj "list" #[] 0)).update s.heap.objs.size (Obj.mapSeq (· ++vs.toArray))).push (seqObj "list" vs.toArray 0)}) (s0:=s) keep ⟨s.toks,rfl⟩ h0 (by rw[size_push',hsz];omega) hoL h64 hlen turn fun h' tk out c g1 g2 g3=>⟨_,rfl,?_⟩
  exact wpAny_pure ⟨_,rfl,h _ h' tk out c g1 (Nat.le_succ _) g2 g3⟩
end
end NhSG
namespace NhSG
set_option autoImplicit false
open PySem
def iX(z:Str):Ky:=(z.length,z.cps.toList)
def sx(a b:Str):Bool:= !gL (iX b) (iX a)
def kw(ws:List Str):List Str:=ws.mergeSort sx
def uA:Value→Option Str
 |.str z _=>some z
 |_=>none
theorem zJ{a b:Str}(h:iX a=iX b):a=b:=by
 have e:a.cps.toList=b.cps.toList:=congrArg Prod.snd h
 cases a;cases b
 congr
 exact Array.toList_inj.mp e
theorem xH(a b c:Str)(h1:sx a b=true)(h2:sx b c=true):sx a c=true:=by
 unfold sx at *
 simp only[Bool.not_eq_true']at *
 exact(PyProof.Rows.KeyOrd.kle_trans (O:=(gm default).toKeyOrd) h1 h2)
theorem xI(a b:Str):(sx a b||sx b a)=true:=by
 unfold sx
 by_cases h:gL (iX b) (iX a)=true
 ·have:gL (iX a) (iX b)=false:=PyProof.Rows.KeyOrd.klt_asymm (O:=(gm default).toKeyOrd) h
  simp[this]
 ·simp[Bool.not_eq_true _▸h]
theorem zK{a b:Str}(h1:sx a b=true)(h2:sx b a=true):a=b:=by
 unfold sx at *
 simp only[Bool.not_eq_true']at *
 exact zJ ((gm default).total _ _ h2 h1)
theorem qm{qs ws:List Str}(hp:qs.Perm ws)(hs:qs.Pairwise fun a b=>sx a b=true):qs=kw ws:=by
 have h1:(kw ws).Pairwise fun a b=>sx a b=true:=List.pairwise_mergeSort xH xI ws
 have h2:qs.Perm (kw ws):=hp.trans (List.mergeSort_perm ws sx).symm
 exact h2.eq_of_pairwise (fun a b _ _ x y=>zK x y) hs h1
theorem xJ{ws:List Str}{vs out:List Value}(hv:vs.map uA=ws.map some)(h:xG (ws.map iX) vs out):out.map uA=(kw ws).map some:=by
 obtain⟨ps,hp,hs,rfl⟩:=h
 have key:∀(ws:List Str) (vs:List Value),vs.map uA=ws.map some→∀p∈(ws.map iX).zip vs,∃z,p.1=iX z∧uA p.2=some z:=fun ws=>by
  induction ws with
  |nil=>intro vs _ p hp;simp at hp
  |cons w ws ih=>
   intro vs hv p hp
   cases vs with
   |nil=>simp at hp
   |cons v vs=>
    simp only[dN,List.cons.injEq]at hv
    rw[dN,List.zip_cons_cons]at hp
    rcases Zal.mp hp with rfl |hp
    ·exact⟨w,rfl,hv.1⟩
    ·exact ih vs hv.2 p hp
 have zm:∀(ws:List Str) (vs:List Value),vs.map uA=ws.map some→((ws.map iX).zip vs).map (fun p=>uA p.2)=ws.map some:=fun ws=>by
  induction ws with
  |nil=>intro vs _;simp
  |cons w ws ih=>
   intro vs hv
   cases vs with
   |nil=>simp at hv
   |cons v vs=>
    simp only[dN,List.cons.injEq]at hv
    simp only[dN,List.zip_cons_cons,hv.1,ih vs hv.2]
 have ex:∀ps:List (Ky×Value),(∀p∈ps,∃z,p.1=iX z∧uA p.2=some z)→∃qs:List Str,ps.map (·.1)=qs.map iX∧ps.map (fun p=>uA p.2)=qs.map some:=fun ps=>by
  induction ps with
  |nil=>intro _;exact⟨[],rfl,rfl⟩
  |cons p ps ih=>
   intro h
   obtain⟨z,h1,h2⟩:=h p (io ..)
   obtain⟨qs,e1,e2⟩:=ih fun q hq=>h q (il _ hq)
   exact⟨z::qs,by simp[h1,e1],by simp[h2,e2]⟩
 obtain⟨qs,e1,e2⟩:=ex ps fun p hp'=>key ws vs hv p (hp.mem_iff.mp hp')
 have perm:qs.Perm ws:=by
  have h1:=hp.map (fun p=>uA p.2)
  rw[e2,zm ws vs hv]at h1
  have h2:=h1.filterMap id
  simpa using h2
 have srt:qs.Pairwise fun a b=>sx a b=true:=by
  have h1:(ps.map (·.1)).Pairwise fun a b=>gL b a=false:=List.pairwise_map.mpr hs
  rw[e1,List.pairwise_map]at h1
  exact h1.imp fun h=>by unfold sx;simp[h]
 rw[List.map_map]
 show ps.map (fun p=>uA p.2)=_
 rw[e2,qm perm srt]
end NhSG
namespace NhSG
open PySem PySem.Spec PySem.Calls PyProof PyProof.Rows PySem.W
section
variable {prog:Program} {w:World} {A:Around} {E:Value→Shared→Prop} {s:Shared} {Q:Value→Shared→Prop}
theorem zL {env:Env} {x z:Str} {t:Tok} {m mg mb:Str→Option Value} {p1 p2 p3 p4 pos:Pos} {x1} (hk:env.scope.kind=.function) (hx:env.kindOf x=some .local) (hl:env.kindOf "len"=some .globalImplicit)
  (hn:s.heap.Ns env.locals m) (hm:m x=some (.str z t)) (hg:s.heap.Ns env.globals mg) (hlg:mg "len"=none) (hb:s.heap.Ns env.builtins mb) (hlb:mb "len"=some (.builtin "len")) (hz:z.length≤sizeLine)
  (h:∀h' tk r,Keep s.heap h'→IsKy h' r (iX z)→Q r {s with heap:=h',toks:=tk})
  (hd:(x == ("__debug__":Str))=false:=by decide) (h1:starEach [Expr.Call (.Name "len" p1) [.Name x p2] [] p3,.Name x p4] env=(false,eval (.Call (.Name "len" p1) [.Name x p2] [] p3) env)::starEach [Expr.Name x p4] env:=by rfl)
  (h2:starEach [Expr.Name x p4] env=[(false,eval (.Name x p4) env)]:=by rfl) (h3:starEach [Expr.Name x p2] env=(false,eval (.Name x p2) env)::starEach [] env:=by rfl):
  wpAny (model prog w) A (eval (.Tuple [.Call (.Name "len" p1) [.Name x p2] [] p3,.Name x p4] x1 pos) env) Q E s:=by
 refine wpAny_Tuple_spliced ?_
 rw[h1,h2]
 show wpAny _ _ (spliced ((false,eval (.Call (.Name "len" p1) [.Name x p2] [] p3) env)::backTo pos [(false,eval (.Name x p4) env)])) _ _ s
 refine Calls.spliced_cons ?_
 refine wpAny_Call_Name_kw (Calls.Name_function_global hk hl (Calls.loadGlobal_builtin hg hlg hb hlb ?_) (by decide))
 refine PyProof.Rows.callWith_builtin1 ?_ h3 rfl
 rw[h3]
 show wpAny _ _ (spliced ((false,eval (.Name x p2) env)::backTo p3 (starEach [] env))) _ _ s
 refine Calls.spliced_cons (wpAny_Name (wpAny_loadName_local hk hx hn hm ?_) hd)
 show wpAny _ _ (spliced []) _ _ s
 refine Calls.spliced_nil ?_
 refine len_str (by have:=hz;rw[sizeLine_eq]at this;omega) ?_
 show wpAny _ _ (spliced [(false,standAt pos >>= fun _=>eval (.Name x p4) env)]) _ _ _
 refine Calls.spliced_cons (wpAny_bind (wpAny_standAt (wpAny_Name (wpAny_loadName_local hk hx hn hm ?_) hd)))
 refine Calls.spliced_nil ⟨by rw[sizeLine_eq];simp,?_⟩
 exact h _ _ _ (fun b o e=>gw _ e) ⟨_,_,_,_,_,z,t,rfl,lh _ rfl,rfl,rfl,rfl,rfl⟩
structure KMod (h:Heap):Prop where
 g:∃mg,h.Ns mainGlobals mg∧mg "len"=none
 b:∃mb,h.Ns builtinsNs mb∧mb "len"=some (.builtin "len")
 lim:h.NoLimit
theorem KMod.keeps{h h':Heap}(a:KMod h)(k:Keep h h'):KMod h':=
 ⟨let ⟨mg,e,r⟩:=a.g;⟨mg,e.keeps k,r⟩,let ⟨mb,e,r⟩:=a.b;⟨mb,e.keeps k,r⟩,a.lim.keeps k⟩
theorem tM{f c':Addr}{name qual x z:Str}{t:Tok}{params:Arguments}{scope:Scope}{pm ctv:Value}{p1 p2 p3 p4 pos:Pos}{x1}(M:KMod s.heap)(hroom:A.depth < recursionLimit)
  (ho:s.heap.get? f=some (kla_obj name qual params (.Tuple [.Call (.Name "len" p1) [.Name x p2] [] p3,.Name x p4] x1 pos) scope [] pm c' ctv)) (hcd:s.heap.CodeRec (.ref c') qual) (hz:z.length≤sizeLine)
  (hbind:bindArgs (kla_fn name qual params (.Tuple [.Call (.Name "len" p1) [.Name x p2] [] p3,.Name x p4] x1 pos) scope [] pm (.ref c') ctv) ⟨[.str z t],[]⟩=pure [(x,.str z t)])
  (hx:scope.names.lookup x=some .local) (hlen:scope.names.lookup (Str.ofString "len")=some .globalImplicit) (hco:scope.isCoroutine=false) (hgen:scope.isGenerator=false) (hk:scope.kind=.function) (hcell:∀x∈scope.names,x.2≠ .cell)
  (hd:(x == ("__debug__":Str))=false):lG prog w A (.ref f) s (.str z t) (iX z):=by
 intro h tk kp
 refine wpAny_call (kla_callFunE hroom (kp _ _ ho) rfl hco hgen rfl (hcd.keeps kp) ?_)
 rw[hbind]
 refine wpAny_pure (wpAny_newFunctionEnv hcell (fun y hy=>?_) (fun h₁ hns hsb=>⟨((M.keeps kp).lim).fresh _ hsb,?_⟩) hk)
 ·rw[Zab.mp hy];exact hx
 have hk₁:Keep h h₁:=fun b o e=>hsb.extBut b o (gI (gE e)) (gw _ e)
 have M1:=(M.keeps kp).keeps hk₁
 obtain⟨mg,g1,g2⟩:=M1.g
 obtain⟨mb,b1,b2⟩:=M1.b
 refine kla_codeExpr (zL (t:=t) (z:=z) (m:=fun y=>List.lookup y [(x,Value.str z t)].reverse) hk hx hlen hns ?_ g1 g2 b1 b2 hz (fun h' tk' r k1 k2=>?_) hd)
 ·simp
 ·exact⟨h',tk',rfl,hk₁.trans k1,k2⟩
end
end NhSG
namespace PL
open PySem L2 Nh
def rQ(f:bH):bH:=fun E=>(f E).bind fun a=>match look a.2 a.1 with
 |some (.list ds)=>(kt ds).bind fun ss=>if (decide (ss.length < 65536)&&ss.all fun z=>decide (z.length≤1000))=true then some (.ow ((NhSG.kw ss).map .str),a.2)else none
 |_=>none
theorem tN:∀{ws:List Str} {vs:List Value},Vals (ws.map V.str) vs→vs.map NhSG.uA=ws.map some
 |[],_,.nil=>rfl
 |w::ws,_,.cons r t=>by
  obtain⟨u,rfl⟩:=r
  simp only[dN,tN t]
  rfl
theorem tO:∀{ws:List Str} {vs:List Value},vs.map NhSG.uA=ws.map some→Vals (ws.map V.str) vs
 |[],[],_=>.nil
 |[],_::_,h=>by simp at h
 |_::_,[],h=>by simp at h
 |w::ws,v::vs,h=>by
  simp only[dN,List.cons.injEq]at h
  refine .cons ?_ (tO h.2)
  have h1:=h.1
  unfold NhSG.uA at h1
  split at h1
  ·cases h1;exact⟨_,rfl⟩
  ·cases h1
section
variable {X:Cx} {pins:List (Addr×Obj)} {σ:L2.St} {H:Hp} {s:Shared}
theorem FR (I:Inv X pins σ H s) (hl:X.mg "len"=none):NhSG.KMod s.heap:=
 ⟨⟨X.mg,I.mod.glob.keeps I.bk,hl⟩,let ⟨mb,h1,h2⟩:=I.mod.blt;⟨mb,h1.keeps I.bk,(h2 _ (by decide)).trans rfl⟩,I.nolimit⟩
theorem qo{l q:Addr}{ss:List Str}{Q:VK}(I:Inv X pins σ H s)(hq:SqL X.K H l (ss.map V.str))(h64:ss.length < 65536)
  (turn:∀z t,z∈ss→NhSG.lG X.prog X.w X.A.in1.in1 (.ref q) s (.str z t) (NhSG.iX z))
  (h:∀D,H D=none→Q (.ref D) (upd H D (.lst ((NhSG.kw ss).map V.str)))):
  wpAny (model X.prog X.w) X.A (call (.builtin "sorted") [.ref l] [(Str.ofString "key",.ref q)]) (EP X pins σ Q) X.xe s:=by
 obtain⟨its,rv,pl,hz⟩:=I.list hq
 have hv:=tN rv
 have hlen:its.length=ss.length:=by have:=congrArg List.length hv;simpa using this
 refine NhSG.vg (ys:=ss.map NhSG.iX) pl.isList (by simp[hlen]) (by omega) (fun i v y hv' hy'=>?_) fun D h' tk out c g1 g2 g3 g4=>?_
 ·rw[List.getElem?_map]at hy'
  obtain⟨z,hz1,rfl⟩:=Zad.mp hy'
  have e:(its.map NhSG.uA)[i]? =(ss.map some)[i]? :=by rw[hv]
  rw[List.getElem?_map,List.getElem?_map,hv',hz1]at e
  have e1:NhSG.uA v=some z:=by simpa using e
  unfold NhSG.uA at e1
  split at e1
  ·cases e1;exact turn _ _ (List.mem_of_getElem? hz1)
  ·cases e1
 ·have ot:=NhSG.xJ hv g3
  refine⟨.ref D,_,I.laid (t':=tk) g4 g2 (show ObjOk X.prog X.w _ _ _ (.lst ((NhSG.kw ss).map V.str))from⟨?_,out.toList,c,tO ot,by simpa using g1⟩),rfl,h D (I.hok.fresh g2)⟩
  rw[fH]
  have:(NhSG.kw ss).length=ss.length:=(List.mergeSort_perm ss NhSG.sx).length_eq
  rw[this,sizeLine_eq]
  omega
end
theorem tP{z:Str}(h:z.length≤1000):z.length≤sizeLine:=by rw[sizeLine_eq];omega
end PL
namespace PL
open PySem L2 Nh
theorem pK{pos:Pos}{a b:Int}{c cv:Value}(l:List Value)(h:TriplesOk l)(e:codeAmong pos (l++[rawInt a,rawInt b,c])=some cv):codeAmong pos l=some cv∨cv=c:=by
 fun_induction TriplesOk l with
 |case1=>
  simp only[Z8,codeAmong,rawInt]at e
  split at e
  ·cases e;exact .inr rfl
  ·cases e
 |case2 a' t b' u x eN ih=>
  simp only[Z9,codeAmong]at e ⊢
  split at e
  ·rename_i hc;rw[if_pos hc];exact .inl e
  ·rename_i hc;rw[if_neg hc];exact ih h e
 |case3 l h1 h2=>exact h.elim
section
variable {X:Cx} {pins:List (Addr×Obj)} {σ:L2.St} {H:Hp} {s:Shared}
theorem qp{P c':Addr}{q:Str}{ps:Array Value}{a b:Int}{h':Heap}{tk:Nat}(I:Inv X pins σ H s)(hT:H P=some (.tbl q))(hps:s.heap.get? P=some (tabObj ps))
  (hx:∀b o,b≠P→s.heap.get? b=some o→h'.get? b=some o) (hc:s.heap.objs.size≤c') (hr:h'.CodeRec (.ref c') q) (hP:h'.get? P=some (tabObj (ps++#[rawInt a,rawInt b,.ref c']))):
  Inv X pins σ (upd H c' (.own P)) {s with heap:=h',toks:=tk}:=by
 have hn:H c'=none:=I.hok.fresh hc
 have neP:∀b,H b=none→b≠P:=fun b n z=>by subst z;rw[hT]at n;cases n
 obtain⟨ps0,e0,t0,r0⟩:=I.hok P _ hT
 rw[hps]at e0
 cases e0
 refine I.un (h':=h') (t':=tk) ⟨fun b o e n _ _=>hx b o (neP b n) e,fun b o e n _ _=>⟨o.slots,hx b o (neP b n) e⟩,fun b o e n _=>?_,fun b o e _=>?_,fun b xs e=>?_,fun b o u e=>?_,fun b z e=>?_⟩ fun d o e=>?_
 ·rw[aB (gI (kj (gE e) hc))];exact n
 ·by_cases hb:b=P
  ·subst hb;exact⟨_,hP⟩
  ·exact⟨o,hx b o hb e⟩
 ·rw[aB (bB e hn)];exact e
 ·rw[aB (bB e hn)];exact e
 ·rw[aB (bB e hn)];exact e
 ·by_cases hd:d=c'
  ·subst hd
   rw[upd_same]at e
   cases e
   obtain⟨c2,oc,_,_,hc2,hoc,_⟩:=hr
   cases hc2
   exact⟨oc,hoc⟩
  ·rw[aB hd]at e
   by_cases hp:d=P
   ·subst hp
    rw[hT]at e
    cases e
    refine⟨_,hP,by simpa using TriplesOk_snoc a b (.ref c') _ t0,fun pos cv z=>?_⟩
    rcases pK (a:=a) (b:=b) (c:=.ref c') ps.toList t0 (by simpa using z)with z |z
    ·obtain⟨c,ec,ho,c2,oc,vs,tq,hc2,hoc,hr2⟩:=r0 pos cv z
     subst ec
     cases hc2
     refine⟨c,rfl,by rw[aB (bB ho hn)];exact ho,c,oc,vs,tq,rfl,hx _ _ (fun z=>?_) hoc,hr2⟩
     subst z
     rw[hT]at ho
     cases ho
    ·subst z
     exact⟨c',rfl,upd_same,hr⟩
   ·refine(I.hok d o e).stay (fun b u hb q=>hx b u ?_ q) (fun b hb=>by rw[aB (bB hb hn)];exact hb) fun b xs hb=>by rw[aB (bB hb hn)];exact hb
    rcases hb with rfl |hb
    ·exact hp
    ·intro z
     subst z
     rw[hT]at hb
     cases hb
theorem Df{P:Addr}{ps:Array Value}(I:Inv X pins σ H s)(hps:s.heap.get? P=some (tabObj ps)):mainGlobals≠P∧s.heap.BuiltinsAt X.mg P:=by
 have hg:=I.mod.glob.keeps I.bk
 obtain⟨bm,ob,b1,b2,b3,b4,b5,b6⟩:=I.mod.bmain
 have b3':=I.bk _ _ b3
 refine⟨fun q=>?_,bm,ob,b1,b2,fun q=>?_,fun q=>?_,b3',b4,b5,b6⟩
 ·obtain⟨o,es,ep,e,hd,_⟩:=hg
  rw[q,hps]at e;cases e;cases hd
 ·obtain⟨o,es,ep,e,hd,_⟩:=hg
  rw[q,e]at b3';cases b3';rw[hd]at b6;cases b6
 ·rw[q,hps]at b3';cases b3';cases b4
end
section
variable {X:Cx} {e:Expr} {m:Bool} {f:bH} {p pos kp lp:Pos} {y:Str} {k:Nat} {p1 p2 p3 p4 tp:Pos} {x1:Nat} {params:Arguments} {scope:Scope} {c P:Addr}
theorem zM (hcode:X.env.code=.ref c) (hP:ji X.K P=some "in_told_order.<locals>.<lambda>") (hC:codeHdIn X.K c P=true) (hr:Room k X.A) (hg:Gl X "sorted") (hm:X.mg "sorted"=none) (hl:X.mg "len"=none) (ha:EX X e m f)
  (hq:X.env.qual++"<lambda>"=Str.ofString "in_told_order.<locals>.<lambda>") (hdef:defaultsOf params X.env=([],[]):=by rfl)
  (hbind:∀(name qual:Str) (pm cd ctv u:Value),bindArgs (kla_fn name qual params (.Tuple [.Call (.Name "len" p1) [.Name y p2] [] p3,.Name y p4] x1 tp) scope [] pm cd ctv) ⟨[u],[]⟩=pure [(y,u)]:=by intros;rfl)
  (sc1:scope.names.lookup y=some .local:=by rfl) (fu:scope.names.lookup (Str.ofString "len")=some .globalImplicit:=by rfl) (sc3:scope.isCoroutine=false:=by rfl) (sc4:scope.isGenerator=false:=by rfl) (sc5:scope.kind=.function:=by rfl)
  (sc6:∀x∈scope.names,x.2≠ .cell:=by decide) (sc7:∀x∈scope.names,x.2≠ .free:=by decide) (hdy:(y == ("__debug__":Str))=false:=by decide)
  (he:starEach [e] X.env=[(false,eval e X.env)]:=by rfl)
  (he':backTo pos (starEach [e] X.env)=(false,eval e X.env)::backTo pos (starEach [] X.env):=by rfl) (hpl:(backTo pos (starEach [e] X.env)).any (·.1)=false:=by rfl)
  (hall:(backToKw pos (keywordEach [⟨some "key",.Lambda params (.Tuple [.Call (.Name "len" p1) [.Name y p2] [] p3,.Name y p4] x1 tp) scope lp,kp⟩] X.env)).all (·.1.isSome)=true:=by rfl)
  (hkw:(backToKw pos (keywordEach [⟨some "key",.Lambda params (.Tuple [.Call (.Name "len" p1) [.Name y p2] [] p3,.Name y p4] x1 tp) scope lp,kp⟩] X.env)).any (·.1.isNone)=false:=by rfl)
  (hnm:(backToKw pos (keywordEach [⟨some "key",.Lambda params (.Tuple [.Call (.Name "len" p1) [.Name y p2] [] p3,.Name y p4] x1 tp) scope lp,kp⟩] X.env)).filterMap (·.1)=[Str.ofString "key"]:=by rfl):
  EX X (.Call (.Name "sorted" p) [e] [⟨some "key",.Lambda params (.Tuple [.Call (.Name "len" p1) [.Name y p2] [] p3,.Name y p4] x1 tp) scope lp,kp⟩] pos) m (rQ f):=by
 intro pins s σ H Q I z
 obtain⟨B,E,xs,Xs,res,E',fr,cl,e0,q⟩:=z
 obtain⟨⟨r1,E1⟩,e1,e2⟩:=Za.mp e0
 simp only at e2
 split at e2
 ·rename_i ds ld
  obtain⟨ss,en,e3⟩:=Za.mp e2
  split at e3
  ·rename_i hc
   cases e3
   simp only[sy,decide_eq_true_eq,Zbg]at hc
   refine wpAny_Call_Name_kw (nV I hg hm PyProof.Rows.boot_sorted ?_ (by decide) (by decide))
   refine PyProof.Rows.callWith_kw (eG (eI ha gy he pos pins s σ H (fun vs H1=>∃p,vs=[.ref p]∧SqL X.K H1 p (ss.map V.str)∧∀H2,Same H1 H2→∀D,H2 D=none→Q (.ref D) (upd H2 D (.lst ((NhSG.kw ss).map V.str)))) I ⟨B,E,xs,Xs,r1,_,fr,cl,e1,fun v1 H1 ⟨F,A,fr1⟩=>?_⟩) fun us s2 ⟨vs,H1,I1,r1,p0,ev,hq1,q1⟩=>?_) he' hpl hall hkw
   ·obtain⟨A',fr2⟩:=fr1.pop
    have r:=(fr1.look0 ld).1
    cases r with
    |lst h1 h2=>
     have:=nO h2 en
     subst this
     exact⟨_,rfl,h1,fun H2 g D hD=>q _ _ ⟨_,_,(fr2.grow g).newl (jC _) hD⟩⟩
   ·subst ev
    cases r1 with
    |cons r rr=>
     cases rr
     cases r
     refine PyProof.Rows.kws_cons (PySem.W.kla_eval hdef ?_)
     have hT:H1 P=some (.tbl (Str.ofString "in_told_order.<locals>.<lambda>")):=I1.tab P _ hP
     obtain⟨ps,hps,ht,hit⟩:=I1.hok P _ hT
     obtain⟨hgP,hbA⟩:=Df I1 hps
     have hcl:closureFor scope X.env=pure []:=closureFor_none sc7
     have C:=codeHd_of_K I1.kIn hC
     have hroom:X.A.in1.in1.depth < recursionLimit:=by have:=hr.dp;show X.A.depth < recursionLimit;omega
     cases hca:codeAmong lp ps.toList with
     |none=>
      refine PySem.W.kla_makeFunction hcl I1.ok.glob (I1.mod.glob.keeps I1.bk) hcode C hps ht hca hgP hbA fun c' ctv h' tk hx hge hlt hrec htb=>?_
      rw[hq]at hrec
      have I2:=qp (tk:=tk) I1 hT hps (fun b o hb e=>hx b o hb e) hge hrec htb
      have g:Same H1 (upd H1 c' (.own P)):=fg (I1.hok.fresh hge) _
      have I3:=I2.kept (t':=tk) (fun b o e=>gw (kla_obj "<lambda>" (X.env.qual++"<lambda>") params (.Tuple [.Call (.Name "len" p1) [.Name y p2] [] p3,.Name y p4] x1 tp) scope [] ((X.mg "__name__").getD .none) c' ctv) e)
      refine PyProof.Rows.kws_nil ?_
      rw[hnm]
      refine qo I3 (g.seq hq1) hc.1 (fun z t hz=>?_) (q1 _ g)
      exact NhSG.tM (FR I3 hl) hroom (lh _ rfl) (by rw[hq];exact hrec.keeps fun b o e=>gw _ e) (tP (hc.2 z hz)) (hbind _ _ _ _ _ _) sc1 fu sc3 sc4 sc5 sc6 hdy
     |some cv=>
      obtain⟨c',rfl,ho,hrec⟩:=hit lp cv hca
      refine PySem.W.kla_makeFunctionHit hcl I1.ok.glob (I1.mod.glob.keeps I1.bk) hcode C hps ht hca hbA fun ctv h' tk hx hsz=>?_
      have I3:=I1.kept (t':=tk) (fun b o e=>gw (kla_obj "<lambda>" (X.env.qual++"<lambda>") params (.Tuple [.Call (.Name "len" p1) [.Name y p2] [] p3,.Name y p4] x1 tp) scope [] ((X.mg "__name__").getD .none) c' ctv) (hx b o e))
      refine PyProof.Rows.kws_nil ?_
      rw[hnm]
      refine qo I3 hq1 hc.1 (fun z t hz=>?_) (q1 _ (Same.refl _))
      exact NhSG.tM (FR I3 hl) hroom (lh _ rfl) (by rw[hq];exact hrec.keeps fun b o e=>gw _ (hx b o e)) (tP (hc.2 z hz)) (hbind _ _ _ _ _ _) sc1 fu sc3 sc4 sc5 sc6 hdy
  ·cases e3
 ·cases e2
end
structure DefT (K:Frag) (mg:Str→Option Value) (x:Str) (st:Stmt) (ps:List Str) (c P:Addr):Prop where
 ex:∃(f:Addr) (oc:Value) (od:Option Addr) (kV doc pm:Value) (an:Option Addr) (ct:Value) (osl:Array (Option Value)),
  K.lookup f=some ⟨oc,od,.func (fnOf x x (aI st) (aA st) (af st) .none kV doc pm an (.ref c) ct),osl⟩∧codeIn K (.ref c) x=true∧keepIn K (.ref f)=true∧mg x=some (.ref f)∧
   Binds K (fnOf x x (aI st) (aA st) (af st) .none kV doc pm an (.ref c) ct) ps []
 hd:codeHdIn K c P=true
 tp:ji K P=some (x++".<locals>."++"<lambda>")
theorem Cb{P:Program}{w:World}{K:Frag}{mg:Str→Option Value}{base:Heap}{x:Str}{st:Stmt}{N ps:List Str}{k a n:Nat}{g:dO}{c T:Addr}(D:DefT K mg x st ps c T)(S:FnScope N ps (af st))(hpa:ps.length=a)(hNn:N.length=n)(hps:a≤n)
  (hbody:∀(f:Addr) (A:Around) (outer:List Env) (s:Shared) (H:Hp) (E:XK),Room k (A.deeper (PyProof.Rows.envOfC x (af st) s.heap.objs.size f (.ref c)))→
   uM (gY nX P w K mg base N x (af st) f (.ref c) A outer s H E).nox (aA st) g):Own P w K mg base (k+1) x ps (cM K (fz a n g)):=by
 subst hpa hNn
 obtain⟨f,oc,od,kV,doc,pm,an,ct,osl,lk,hcd,kp,hm,hb⟩:=D.ex
 refine⟨f,_,yy lk hcd S (fun vs H Q E h=>?_) (fun A outer s H vs Q E hr h=>?_),hb,hm,kp⟩
 ·obtain⟨ds,r,e,rp,_⟩:=h
  unfold fz at e
  split at e
  ·rename_i hl
   rw[rp.len];exact hl
  ·cases e
 obtain⟨ds,r,e,rp,q⟩:=h
 unfold fz at e
 split at e
 ·rename_i hl
  refine⟨_,(hbody f A outer s H E hr).nox,?_⟩
  obtain⟨⟨E',fl⟩,e1,e⟩:=Za.mp e
  refine⟨H,aX N.length ds,[],[],E',fl,⟨H,[],jX rp (by omega)⟩,rfl,e1,?_⟩
  cases fl with
  |nx=>
   cases e
   rintro σ' H' ⟨F',A',fr'⟩
   exact q _ _ (fr'.bf.trans fr'.fh) .non
  |bk=>cases e
  |ct=>cases e
  |rt r'=>
   rintro σ' v H' ⟨F',A',fr'⟩
   obtain⟨s1,s2⟩:=fr'.resultO e
   exact q v H' s1 s2
 ·cases e
theorem vh{K:Frag}{n:Str}(a:nsIn K mainGlobals n=some none):pV K n=none:=by
 unfold pV
 rw[a]
theorem zN{K:Frag}{n:Str}{f c P:Addr}{oc occ:Value}{od odc:Option Addr}{fd:FuncData}{sl slc:Array (Option Value)}{vs:Array Value}(a:nsIn K mainGlobals n=some (some (.ref f)))(l:K.lookup f=some ⟨oc,od,.func fd,sl⟩)(hc:fd.code=.ref c)
  (lc:K.lookup c=some ⟨occ,odc,.fields vs,slc⟩) (hv:(vs[11]? :Option Value)=some (.ref P)):pV K n=some P:=by
 unfold pV
 rw[a]
 simp only[l,hc,lc,hv]
def zO(K:Frag)(n:Str)(o:Option Addr):Prop:=pV K n=o∧∀P,o=some P→∃c,codeHdIn K c P=true
theorem iY{K:Frag}{n:Str}(a:nsIn K mainGlobals n=some none):zO K n none:=⟨vh a,nofun⟩
theorem lH{K:Frag}{n:Str}{f c P:Addr}{oc occ:Value}{od odc:Option Addr}{fd:FuncData}{sl slc:Array (Option Value)}{vs:Array Value}(a:nsIn K mainGlobals n=some (some (.ref f)))(l:K.lookup f=some ⟨oc,od,.func fd,sl⟩)(hc:fd.code=.ref c)
  (lc:K.lookup c=some ⟨occ,odc,.fields vs,slc⟩) (hv:(vs[11]? :Option Value)=some (.ref P)) (hd:codeHdIn K c P=true):zO K n (some P):=⟨zN a l hc lc hv,fun _ e=>by cases e;exact⟨c,hd⟩⟩
def iq(K:Frag):List (Str×Str)→List (Option Addr)→Prop
 |[],[]=>True
 |n::r,o::os=>zO K n.1 o∧iq K r os
 |_,_=>False
def zP(b:Addr):List (Str×Str)→List (Option Addr)→Option Str
 |n::r,o::os=>if o=some b then some n.2 else zP b r os
 |_,_=>none
theorem j4{K:Frag}{b:Addr}:∀{l:List (Str×Str)} {os:List (Option Addr)},iq K l os→AU K b l=zP b l os
 |[],[],_=>rfl
 |n::r,o::os,h=>by
  unfold AU zP
  rw[h.1.1,j4 h.2]
theorem tQ{b:Addr}{q:Str}:∀{l:List (Str×Str)} {os:List (Option Addr)},zP b l os=some q→some b∈os
 |n::r,o::os,h=>by
  unfold zP at h
  split at h
  ·rename_i e;rw[e];exact io ..
  ·exact il _ (tQ h)
 |[],_,h=>by cases h
 |_::_,[],h=>by cases h
theorem zQ{K:Frag}{h:Heap}{os:List (Option Addr)}(T:iq K pW os)(ht:∀b,some b∈os→h.get? b=some (tabObj #[])∧(∃c,PySem.W.CodeHd h c b)∧K.lookup b=none):we K h:=fun b q e=>by
 unfold ji at e
 rw[j4 T]at e
 exact ht b (tQ e)
def oM(K:Frag)(h:Heap):List (Option Addr)→Prop
 |[]=>True
 |none::r=>oM K h r
 |some P::r=>(h.get? P=some (tabObj #[])∧K.lookup P=none)∧oM K h r
theorem kP{K:Frag}{h:Heap}{b:Addr}:∀{l:List (Str×Str)} {os:List (Option Addr)},iq K l os→oM K h os→some b∈os→h.get? b=some (tabObj #[])∧(∃c,codeHdIn K c b=true)∧K.lookup b=none
 |_,[],_,_,m=>by cases m
 |[],_::_,T,_,_=>T.elim
 |_::l,none::r,T,t,m=>by
  rcases Zal.mp m with e |e
  ·cases e
  ·exact kP (os:=r) T.2 t e
 |_::l,some P::r,T,t,m=>by
  rcases Zal.mp m with e |e
  ·cases e;exact⟨t.1.1,T.1.2 _ rfl,t.1.2⟩
  ·exact kP T.2 t.2 e
theorem Cd{K:Frag}{h:Heap}{os:List (Option Addr)}(X:K.In h)(T:iq K pW os)(t:oM K h os):we K h:=zQ T fun b m=>
 let ⟨t1,⟨c,t2⟩,t3⟩:=kP T t m
 ⟨t1,⟨c,codeHd_of_K X t2⟩,t3⟩
end PL
namespace PL
open PySem PySem.Spec PyProof.Rows L2 Nh
def FS(W:Value→Shared→Prop)(P:Program)(w:World)(K:Frag)(mg:Str→Option Value)(base:Heap)(N:List Str)(qual:Str)(scope:Scope)(f:Addr)(cd:Value)(cl:List (Str×Addr))(A:Around)(outer:List Env)(s:Shared)(H:Hp):Cx where
 prog:=P
 w:=w
 K:=K
 mg:=mg
 base:=base
 A:=A.deeper (envX qual scope s.heap.objs.size f cd cl)
 N:=N
 s₀:=s
 H₀:=H
 env:=envX qual scope s.heap.objs.size f cd cl
 outer:=outer
 stack:=envX qual scope s.heap.objs.size f cd cl::outer
 ex:=[]
 calm:=true
 fn:=fun _=>false
 pn:=[]
 xe:=W
section
variable {W:Value→Shared→Prop} {P:Program} {w:World} {K:Frag} {mg:Str→Option Value} {base:Heap} {N:List Str} {qual:Str} {scope:Scope} {f:Addr} {cd:Value} {cl:List (Str×Addr)} {A:Around} {outer:List Env} {s:Shared} {H:Hp} {σ:L2.St}
structure LamIn (N:List Str) (scope:Scope) (cl:List (Str×Addr)) (σ:L2.St) (H:Hp) (h:Heap):Prop where
 cell:∀x c,cl.lookup x=some c→(∃v,h.IsCell c v)∧H c=none
 inj:∀x y c,cl.lookup x=some c→cl.lookup y=some c→x=y
 has:∀x,(scope.names.lookup x=some .cell∨scope.names.lookup x=some .free)→∃c,cl.lookup x=some c
 val:∀(i:Nat) x v,N[i]? =some x→σ[i]? =some (some v)→scope.names.lookup x=some .free∧∃u c,RelV v u∧cl.lookup x=some c∧h.IsCell c (some u)
 len:σ.length=N.length
theorem LamIn.keeps{h h':Heap}(L:LamIn N scope cl σ H h)(k:∀b o,h.get? b=some o→h'.get? b=some o):LamIn N scope cl σ H h':=
 ⟨fun x c e=>let ⟨⟨v,o,ho,hd⟩,n⟩:=L.cell x c e;⟨⟨v,o,k _ _ ho,hd⟩,n⟩,L.inj,L.has,fun i x v e1 e2=>let ⟨z,u,c,r,e,o,ho,hd⟩:=L.val i x v e1 e2;⟨z,u,c,r,e,o,k _ _ ho,hd⟩,L.len⟩
theorem Ce{h₁:Heap}{tk:Nat}{m:Str→Option Value}(sk:scope.kind=.function)(hd:A.handled=none)(e0:Env0 P w K mg base A outer s H)(L:LamIn N scope cl σ H s.heap)
  (hns:h₁.Ns s.heap.objs.size m) (hk:∀b o,s.heap.get? b=some o→h₁.get? b=some o):Inv (FS W P w K mg base N qual scope f cd cl A outer s H) [] σ H {s with heap:=h₁,toks:=tk}:=by
 have noA:∀b:Addr,b∉(FS W P w K mg base N qual scope f cd cl A outer s H).ex:=fun b z=>absurd (show b∈([]:List Addr)from z) (by simp)
 have L1:=L.keeps hk
 refine⟨⟨e0.mod,sk,rfl,rfl,fQ _,L.inj,L.has,fun y c z _=>(nomatch z),fun _=>hd,Around.frames_deeper e0.frames,.inr ⟨rfl,rfl⟩,fun b z=>absurd z (noA b),e0.bs,e0.bsz,fun b _ _=>noA b,fun b z=>absurd z (noA b),e0.funs,e0.frf,e0.tab⟩,
  rfl,e0.bare,Un.kept hk,⟨_,hns,fun i y v h1 h2 h3=>?_⟩,fun y c h=>(L1.cell y c h).1,e0.hok.fresh (fQ _),fun y c h=>(L.cell y c h).2,fun p hp=>absurd (show p∈([]:List (Addr×Obj))from hp) (by simp),e0.hok.kept hk,L.len⟩
 obtain⟨z,u,c,r,e,o⟩:=L1.val i y v h1 h2
 exact⟨u,r,.inr ⟨.inr z,c,e,o⟩⟩
def FT(P:Program)(w:World)(K:Frag)(A:Around)(outer:List Env)(H:Hp)(fa:Addr)(n:Str)(s:Shared):Prop:=
 ∀W:Value→Shared→Prop,(∀C H' ea s' a0 B,nsIn K mainGlobals n=some (some (.ref C))→Same H H'→s'.os=s.os→AllBare s'.gens→FlyC B outer ea (.ref C) a0 s'.heap→HOk P w H' B→UnB (jS outer) H H' s.heap B s'.heap→W (.ref ea) s')→
  wpAny (model P w) A (call (.ref fa) [] []) (fun _ _=>False) W s
theorem zR{k:Nat}{name x:Str}{ps:List Str}{r:List PyData→Option Str}{p pos:Pos}{e:Expr}{es:List Expr}{m:Bool}{g:ln}{params:Arguments}{pm ctv:Value}{c':Addr}{ds:List PyData}{vs:List V}{n:Str}{E':List Sl}
  (D:OwnR P w K mg base k x ps (jk K r)) (hr:Room (k+1) A) (e0:Env0 P w K mg base A outer s H) (L:LamIn N scope cl (eO N vs) H s.heap) (rp:RpA K H vs ds) (hn:ds.length≤N.length)
  (ho:s.heap.get? f=some (kla_obj name qual params (.Call (.Name x p) (e::es) [] pos) scope cl pm c' ctv)) (hcd:s.heap.CodeRec (.ref c') qual)
  (ha:∀s:Shared,AX (FS (fun _ _=>False) P w K mg base N qual scope f (.ref c') cl A outer s H) (e::es) m g) (eg:fE r g (aX N.length ds)=some (n,E'))
  (hbind:bindArgs (kla_fn name qual params (.Call (.Name x p) (e::es) [] pos) scope cl pm (.ref c') ctv) ⟨[],[]⟩=pure [])
  (sg:scope.names.lookup x=some .globalImplicit) (sk:scope.kind=.function) (hco:scope.isCoroutine=false) (hgen:scope.isGenerator=false) (hcell:∀x∈scope.names,x.2≠ .cell) (hdb:(x == ("__debug__":Str))=false)
  (he:∀env,starEach (e::es) env=(false,eval e env)::starEach es env) (hpl:∀env,(backTo pos (starEach es env)).any (·.1)=false):FT P w K A outer H f n s:=by
 intro W k1
 have hroom:A.depth < recursionLimit:=by have:=hr.dp;omega
 have lim:s.heap.NoLimit:=e0.mod.nolimit.keeps fun b o e=>(e0.bs b o e).1
 refine wpAny_call (PySem.W.kla_callFunE hroom ho rfl hco hgen rfl hcd ?_)
 rw[hbind]
 refine wpAny_pure (wpAny_newFunctionEnv hcell (fun y hy=>(nomatch hy)) (fun h₁ hns hsb=>⟨lim.fresh _ hsb,PySem.W.kla_codeExpr ?_⟩) sk)
 have hk₁:∀b o,s.heap.get? b=some o→h₁.get? b=some o:=fun b o e=>hsb.extBut b o (gI (gE e)) (gw _ e)
 have IL:=fun W'=>Ce (W:=W') (P:=P) (w:=w) (K:=K) (mg:=mg) (base:=base) (qual:=qual) (f:=f) (cd:=.ref c') (tk:=s.toks+([]:List (Str×Value)).length) sk hr.hd e0 L hns hk₁
 refine wpAny_mono (j0 (X:=FS _ P w K mg base N qual scope f (.ref c') cl A outer s H) (es:=es) D (hr.deeper _) sg (ha s) hdb (he _) (hpl _) (IL (fun e' s'=>wpAny (model P w) (A.deeper (envX qual scope s.heap.objs.size f (.ref c') cl)) (leaving (envX qual scope s.heap.objs.size f (.ref c') cl) e') (fun _ s''=>W e' s'') (fun e'' s''=>W e'' s'') s')) (B:=H) ⟨H,[],jX rp hn⟩ eg fun C H' ns ⟨F',A',fr'⟩=>?_) (fun _ _ z=>z.elim) fun _ _ z=>z
 intro H1 s1 ea s' a0 B I1 os bare fl hok u
 refine oJ I1.ok.frames rfl fl fun h2 x1 x2=>?_
 exact k1 C H' ea _ a0 B ns (fr'.bf.trans fr'.fh) (os.trans I1.os) bare x1 hok (UnB.out I1 rfl (u.on fl.2.2.1 x2))
end
end PL
namespace PL
open PySem PySem.Spec PyProof.Rows L2 Nh
theorem FU{P:Program}{w:World}{K:Frag}{mg:Str→Option Value}{base:Heap}{k:Nat}{f:Addr}{name qual:Str}{params:Arguments}{body:List Stmt}{scope:Scope}{dV kV doc pm cdv ct oc:Value}{an od:Option Addr}
  {osl:Array (Option Value)} {N ps:List Str} (lk:K.lookup f=some ⟨oc,od,.func (fnOf name qual params body scope dV kV doc pm an cdv ct),osl⟩) (hcd:codeIn K cdv qual=true) (S:FnScope N ps scope)
  {A:Around} {outer:List Env} {s:Shared} {H:Hp} {args:Args} {us:List Value} {vs:List V} {Q:VK} (hr:Room (k+1) A) (e0:Env0 P w K mg base A outer s H) (hb:BindsTo s (fnOf name qual params body scope dV kV doc pm an cdv ct) args (ps.zip us)) (r:Vals vs us) (hl:vs.length=ps.length)
  (hbody:∀s1,(∀b o,s.heap.get? b=some o→s1.heap.get? b=some o)→Inv (gY nX P w K mg base N qual scope f cdv A outer s H E0).nox [] (eO N vs) H s1→Room k (A.deeper (envOfC qual scope s.heap.objs.size f cdv))→
   wpAny (model P w) (A.deeper (envOfC qual scope s.heap.objs.size f cdv)) (execs body (envOfC qual scope s.heap.objs.size f cdv)) (SP (gY nX P w K mg base N qual scope f cdv A outer s H E0).nox [] {nx:=fun _ H'=>Q .non H',rt:=Q}) (fun _ _=>False) s1):
  codeAny (model P w) A (.call (.ref f) args) (CR nX outer P w H s Q E0) s:=by
 have KX:K.In s.heap:=e0.mod.kin.keeps fun b o e=>(e0.bs b o e).1
 have lim:s.heap.NoLimit:=e0.mod.nolimit.keeps fun b o e=>(e0.bs b o e).1
 refine codeAny_call_function hr.depth (KX _ _ lk) rfl S.co S.gen rfl (codeRec_of KX hcd) (hb _ _ _ _ ?_)
 refine wpAny_newFunctionEnv_cells S.kind (fun⟨n,v⟩ hy=>(S.par n (List.of_mem_zip hy).1).imp id fun q=>⟨q,cellsFrom_some _ _ _ (.inl q)⟩) fun env he s1 x=>?_
 subst he
 refine⟨lim.keeps x.toInCall.keep,codeAny_func ?_⟩
 refine wpAny_mono (hbody s1 x.toInCall.keep ((me (CX:=nX) (E:=E0) S hr.hd e0 hl r x).wish _) (hr.deeper _)) (fun fl s' hs=>?_) fun e s' hs=>hs.elim
 cases fl with
 |ret u=>obtain⟨v,σ',H',J,rv,q⟩:=hs;exact⟨v,H',J.os,J.bare,J.base,J.hok,rv,q⟩
 |next=>obtain⟨σ',H',J,q⟩:=hs;exact⟨V.non,H',J.os,J.bare,J.base,J.hok,rfl,q⟩
 |brk=>obtain⟨_,_,_,q⟩:=hs;exact q.elim
 |cont=>obtain⟨_,_,_,q⟩:=hs;exact q.elim
theorem EC{X:Cx}{body:List Stmt}{cn en:Str}{CH:Addr}{np hpos pos:Pos}{b₀:Stmt}{suite:List Stmt}{ok:List Str}{i:Nat}{hs:dO}(hx:X.xe=fun _ _=>False)(hN:X.N.Nodup)(hex:X.ex=[])(hst:X.stack=X.env::X.outer)(hfr:X.env.frame=some X.env.locals)(hg:Gl X cn)(hm:X.mg cn=some (.ref CH))
  (hok:∀n∈ok,∀C,nsIn X.K mainGlobals n=some (some (.ref C))→exmOne X.K (.ref C) (.ref CH)=some true) (hh:∀ea oe C,(∃vs,oe.data=.fields vs∧vs[2]? =some .none)→uM (hX X ea oe C) (b₀::suite) hs) (hi:X.N[i]? =some en) (hk:X.env.scope.names.lookup en=some .local) (hdb:(cn == ("__debug__":Str))=false)
  {pins:List (Addr×Obj)} {s:Shared} {σ:L2.St} {H B:Hp} {D:Ends} {E E2:List Sl} {n:Str} {sv:Sl} (I:Inv X pins σ H s) (fr:Frm X.K B σ H E [] [])
  (hr:∀W:Value→Shared→Prop,(∀C H' ea s' a0 Bb,nsIn X.K mainGlobals n=some (some (.ref C))→Same H H'→s'.os=s.os→AllBare s'.gens→FlyC Bb X.stack ea (.ref C) a0 s'.heap→HOk X.prog X.w H' Bb→UnB (jS X.stack) H H' s.heap Bb s'.heap→W (.ref ea) s')→wpAny (model X.prog X.w) X.A (execs body X.env) (fun _ _=>False) W s)
  (hc:n∈ok∧i < E.length) (eh:hs (E.set i (.sh (Eu n)))=some (E2,.rt sv)) (q:∀σ9 v H9,Frm X.K B σ9 H9 E2 [v] [sv]→D.rt v H9):
  wpAny (model X.prog X.w) X.A (exec (.Try body [.ExceptHandler (some (.Name cn np)) (some en) (b₀::suite) hpos] [] [] pos) X.env) (SP X pins D) X.xe s:=by
 refine wpAny_Try_except (wpAny_mono (hr (fun e s₁=>wpAny (model X.prog X.w) X.A (noteFrame e X.env) (fun _ s₂=>wpAny (model X.prog X.w) X.A (setFlight e none) (fun _ s₃=>wpAny (model X.prog X.w) X.A (handleBy e X.env [.ExceptHandler (some (.Name cn np)) (some en) (b₀::suite) hpos]) (SP X pins D) X.xe s₃) X.xe s₂) X.xe s₁) fun C H' ea s' a0 Bb ns gg os bare fly hokB u=>?_) (fun _ _ z=>z.elim) fun _ _ z=>z)
 have ff:s'.heap.FunFrames Bb X.stack:=fly.2.2.1
 have fly':FlyC Bb (X.env::X.outer) ea (.ref C) a0 s'.heap:=hst▸fly
 have invAt:∀h5,Bb.StaysIn h5→s'.heap.UpToSlots h5→Inv X pins σ H' {s' with heap:=h5}:=fun h5 st k=>by
  have u2:UnB (jS X.stack) H H' s.heap Bb h5:=u.on ff k
  exact I.call' (s':={s' with heap:=h5}) os (u2.un st I.stkFree) (hokB.kept fun b o e=>st b o e) bare fun b z=>(nomatch z)
 refine mw (by rw[I.ok.frames,hst]) hfr fly' fun h4 held4 k4=>?_
 refine zu held4 fun h5 fly5 k5=>?_
 have I5:=invAt h5 fly5.1 (k4.trans k5)
 obtain⟨ob,hob,hobc⟩:=fly5.there
 have Z5:gG ea C h5:=⟨ob,hob,hobc⟩
 refine wpAny_handleBy_cons (codeAny_handlers_test (ip (X:=Ho X ea) (zA I5) hg hm ?_ hdb)) (by intro q;cases q)
 refine(PySem.W.exm_one (I5.kIn) (ms Z5) (hok n hc.1 C ns)).here ?_
 refine codeAny_handlers_suite_as ?_
 refine rE fly5 fun h6 fly6 k6=>?_
 have I6:=invAt h6 fly6.1 ((k4.trans k5).trans k6)
 obtain⟨oe,vs,hoe,hoec,hoed,_⟩:=fly6.first
 have nB:Bb.get? ea=none:=fly6.2.1
 have old:∀b o,s.heap.get? b=some o→b≠ea:=fun b o eb z=>by
  subst z
  by_cases hf:b∈jS X.stack
  ·obtain⟨_,o',ho',hd⟩:=(show h6.FunFrames Bb X.stack from hst▸fly6.2.2.1).mem hf
   rw[hoe]at ho'
   cases ho'
   exact hd vs hoed
  ·obtain⟨o',ho'⟩:=u.there b o eb hf
   rw[nB]at ho'
   cases ho'
 have hn6:H' ea=none:=by
  cases q:H' ea with
  |none=>rfl
  |some o=>
   obtain⟨z,e⟩:=tB (hokB ea o q)
   rw[nB]at e
   cases e
 have hs0:X.s₀.heap.get? ea=none:=by
  cases q:X.s₀.heap.get? ea with
  |none=>rfl
  |some o=>
   obtain⟨o',z⟩:=I.base.there ea o q (by rw[hex];exact fun z=>(nomatch z))
   exact absurd rfl (old ea o' z)
 have hnew:EaNew X ea:=⟨hs0,fun xs z=>(nomatch hn6.symm.trans (I6.base.tups ea xs z)),fun o u z=>(nomatch hn6.symm.trans (I6.base.frzs ea o u z)),fun q z=>(nomatch hn6.symm.trans (I6.base.tbls ea q z))⟩
 have hctx:∃vs,oe.data=.fields vs∧vs[2]? =some .none:=by
  obtain⟨o,ws,ho,hd,h2⟩:=fly6.2.2.2.2
  rw[hoe]at ho
  cases ho
  exact⟨ws,hd,h2⟩
 have I7:Inv X pins σ (upd H' ea (.frz oe (.ext (gG ea C)))) {s' with heap:=h6}:=by
  refine xB I6 hn6 ?_ ?_ (fun x c e=>?_) (fun p hp=>?_) ?_
  ·cases q:X.s₀.heap.get? ea with
   |none=>rfl
   |some o=>
    obtain⟨o',z⟩:=I.base.there ea o q (by rw[hex];exact fun z=>(nomatch z))
    exact absurd rfl (old ea o' z)
  ·obtain⟨_,⟨o,_,_,ho,_⟩,_⟩:=I.loc
   exact old _ o ho
  ·obtain⟨v,o,ho,_⟩:=I.cell x c e
   exact old _ o ho
  ·exact old _ _ (I.pin p hp).1
  ·exact⟨hoe,⟨oe,hoe,hoec⟩,⟨oe,hoe⟩,fun h1 h2 ⟨o,z,c⟩ k=>⟨o,k o z,c⟩⟩
 refine nU (X:=X) I7 hN hi (.inl hk) (v:=.ref ea) rfl (fun s8 I8=>?_) (.inr hk)
 have g:Same H' (upd H' ea (.frz oe (.ext (gG ea C)))):=fun b o e=>by rw[aB (bB e hn6)];exact e
 obtain⟨F0,A0,fr0⟩:=fr
 have fr1:=fr0.grow gg
 have fr2:=fr1.grow g
 have nA:ea∉A0:=fun z=>by
  rcases fr1.mutA ea z with⟨_,w⟩ |⟨_,w⟩ <;> rw[hn6]at w <;> cases w
 have fr3:=fr2.push (v:=.ref ea) (s:=.sh (Eu n)) ⟨rfl,_,rfl,.exc (by show(if ea∈A0 then none else _)=_;rw[if_neg nA];exact upd_same) ns⟩
 obtain⟨A3,fr4⟩:=fr3.store rfl (fun _ z=>(nomatch z)) hc.2
 have q8:=hh ea oe C hctx pins s8 _ _ {nx:=fun _ _=>False,bk:=fun _ _=>False,ct:=fun _ _=>False,rt:=fun v H9=>∃σ9,Frm X.K B σ9 H9 E2 [v] [sv]} (BW I8 hnew upd_same) ⟨B,_,[],[],E2,.rt sv,⟨_,A3,fr4⟩,rfl,eh,fun σ9 v H9 f=>⟨σ9,f⟩⟩
 refine wpAny_mono q8 (fun f s9 z=>?_) fun _ _ z=>z.elim
 cases f with
 |next=>obtain⟨_,_,_,z⟩:=z;exact z.elim
 |brk=>obtain⟨_,_,_,z⟩:=z;exact z.elim
 |cont=>obtain⟨_,_,_,z⟩:=z;exact z.elim
 |ret uu=>
  obtain⟨v,σ9,H9,I9,rv,σx,fx⟩:=z
  have I9:Inv X pins σ9 H9 s9:=zB I9 I.ok hnew
  exact zC I9 hN hi hk fun s10 I10=>⟨v,_,H9,I10,rv,q _ v H9 fx⟩
end PL
namespace PL
open PySem PySem.Spec PyProof.Rows L2 Nh
structure OwnF (P:Program) (w:World) (K:Frag) (mg:Str→Option Value) (base:Heap) (k:Nat) (x:Str) (ok:List Str) (c:Str→PyData→Option Sl):Prop where
 ex:∃(f:Addr) (fd:FuncData) (ps:List Str),ps.length=2∧Binds K fd ps []∧mg x=some (.ref f)∧keepIn K (.ref f)=true∧
  ∀(A:Around) (outer:List Env) (s:Shared) (H:Hp) (us:List Value) (fa:Addr) (o:Obj) (fd':FuncData) (dv:V) (d:PyData) (n:Str) (sv:Sl) (Q:VK),Room (k+1) A→Env0 P w K mg base A outer s H→BindsTo s fd ⟨us,[]⟩ (ps.zip us)→Vals [.ref fa,dv] us→Rp K H dv d→
   s.heap.get? fa=some o→o.data=.func fd'→(∀env s1,Env0 P w K mg base (A.deeper env) (env::outer) s1 H→Room k (A.deeper env)→(∀b o,s.heap.get? b=some o→s1.heap.get? b=some o)→FT P w K (A.deeper env) (env::outer) H fa n s1)→n∈ok→c n d=some sv→
   (∀v H',Same H H'→sP K H H' v sv→Q v H')→codeAny (model P w) A (.call (.ref f) ⟨us,[]⟩) (CR nX outer P w H s Q E0) s
def G4(n i:Nat)(hs:dO):Str→PyData→Option Sl:=fun nm d=>if 2≤n∧i < n then match hs ((.no:: .sh d::List.replicate (n - 2) .no).set i (.sh (Eu nm)))with
 |some (_,.rt r)=>dQ r
 |_=>none
 else none
theorem ED{K:Frag}{H:Hp}{N:List Str}{fv dv:V}{d:PyData}(r:Rp K H dv d):FrF K H H [] (L2.eO N [fv,dv]) H (.no:: .sh d::List.replicate (N.length - 2) .no) [] []:=by
 refine⟨Same.refl _,Same.refl _,jW H,?_,List.nodup_nil,fun a ha=>(by cases ha),rfl,?_⟩
 ·show SAll _ (some fv::some dv::List.replicate (N.length - 2) none) _ []
  refine .cons (A:=[]) rfl (.cons (A:=[]) ⟨rfl,_,rfl,r⟩ ?_)
  generalize N.length - 2=k
  generalize L2.eO N [fv,dv]=τ
  induction k with
  |zero=>exact .nil
  |succ k ih=>exact .cons (A:=[]) rfl ih
 ·intro s hs
  rcases Zal.mp hs with rfl |hs
  ·rfl
  rcases Zal.mp hs with rfl |hs
  ·rfl
  rw[(List.mem_replicate.mp hs).2]
  rfl
theorem G5{P:Program}{w:World}{K:Frag}{mg:Str→Option Value}{base:Heap}{x dn due cn en:Str}{st b₀:Stmt}{suite eN:List Stmt}{N:List Str}{k n i:Nat}{hs:dO}{ok:List Str}{CH:Addr}{p1 p2 p3 np hpos tpos:Pos}(D:Def K mg x st [dn,due])(S:FnScope N [dn,due] (af st))(hNn:N.length=n)
  (hb:aA st= .Try [.Expr (.Call (.Name dn p1) [] [] p2) p3] [.ExceptHandler (some (.Name cn np)) (some en) (b₀::suite) hpos] [] [] tpos::eN)
  (hm:mg cn=some (.ref CH)) (hok:∀n∈ok,∀C,nsIn K mainGlobals n=some (some (.ref C))→exmOne K (.ref C) (.ref CH)=some true)
  (hbody:∀(f:Addr) (cdv:Value) (A:Around) (outer:List Env) (s:Shared) (H:Hp),Room k (A.deeper (PyProof.Rows.envOfC x (af st) s.heap.objs.size f cdv))→∀ea oe C,(∃vs,oe.data=.fields vs∧vs[2]? =some .none)→uM (hX (gY nX P w K mg base N x (af st) f cdv A outer s H E0).nox ea oe C) (b₀::suite) hs)
  (hg:(af st).names.lookup cn=some .globalImplicit:=by rfl) (hi:N[i]? =some en:=by rfl) (hk:(af st).names.lookup en=some .local:=by rfl) (h0:N[0]? =some dn:=by rfl) (hk0:(af st).names.lookup dn=some .local:=by rfl) (hdb:(cn == ("__debug__":Str))=false:=by decide) (hdb2:(dn == ("__debug__":Str))=false:=by decide)
  (hsw:∀env,swapsWith (.Call (.Name dn p1) [] [] p2) none p3.line env=pure false:=by intro _;rfl):OwnF P w K mg base k x ok (G4 n i hs):=by
 subst hNn
 obtain⟨f,fd,F,mx,b⟩:=D.ex
 have kp:=F.kp
 obtain⟨oc,od,kV,doc,pm,an,cdv,ct,osl,rfl,lk,hcd⟩:=F.ex
 refine⟨f,_,_,rfl,b,mx,kp,fun A outer s H us fa o fd' dv d nm sv Q hr e0 bd rv rp ho hfd deed hn hc q=>?_⟩
 refine FU lk hcd S hr e0 bd rv rfl fun s1 keep I hr1=>?_
 unfold G4 at hc
 split at hc
 rotate_left
 ·cases hc
 rename_i hlen
 split at hc
 rotate_left
 ·cases hc
 rename_i E2 r eh
 rw[hb]
 refine wpAny_execs_cons (wpAny_mono (EC (X:=(gY nX P w K mg base N x (af st) f cdv A outer s H E0).nox) (ok:=ok) (D:={nx:=fun _ _=>False,bk:=fun _ _=>False,ct:=fun _ _=>False,rt:=Q}) rfl S.nd rfl rfl rfl hg hm hok (hbody f cdv A outer s H hr1) hi hk hdb I ⟨H,[],ED rp⟩ (fun W kk=>?_) ⟨hn,by simp;omega⟩ eh fun σ9 v H9 ⟨F9,A9,f9⟩=>?_) (fun fl s' z=>?_) fun _ _ z=>z)
 ·obtain⟨m,hns,hl⟩:=I.loc
  obtain⟨u,ru,lo⟩:=hl 0 dn (.ref fa) h0 rfl (.inl hk0)
  cases(show u=Value.ref fa from ru)
  have hm0:m dn=some (.ref fa):=by
   rcases lo with⟨_,z⟩ |⟨z,_⟩
   ·exact z
   ·rcases z with z |z <;> exact absurd ((show(af st).names.lookup dn=_ from z).symm.trans hk0) (by decide)
  refine wpAny_execs_cons (wpAny_mono (wpAny_Expr_any (Q:=fun _ _=>False) (wpAny_Call_Name_kw (wpAny_Name (wpAny_loadName_local S.kind hk0 hns hm0 (Calls.callWith_function (evalArgs_nil3 ⟨⟨keep _ _ ho,hfd⟩,?_⟩))) hdb2)) I.quiet (hsw _)) (fun _ _ z=>z.elim) fun _ _ z=>z)
  exact deed _ s1 I.env0 hr1 keep W kk
 ·obtain⟨s1,s2⟩:=f9.resultO hc
  exact q v H9 s1 s2
 ·cases fl with
  |next=>obtain⟨_,_,_,z⟩:=z;exact z.elim
  |brk=>obtain⟨_,_,_,z⟩:=z;exact z.elim
  |cont=>obtain⟨_,_,_,z⟩:=z;exact z.elim
  |ret u=>exact z
end PL
namespace PL
open PySem PySem.Spec PyProof.Rows L2 Nh
structure LamOk (X:Cx) (scope:Scope) (cl:List (Str×Addr)) (N:List Str) (js:List Nat):Prop where
 clos:closureFor scope X.env=pure cl
 same:∀x c,cl.lookup x=some c→X.env.cells.lookup x=some c
 has:∀x,(scope.names.lookup x=some .cell∨scope.names.lookup x=some .free)→∃c,cl.lookup x=some c
 len:js.length=N.length
 from_:∀(i:Nat) x,N[i]? =some x→∃j,js[i]? =some j∧X.N[j]? =some x∧scope.names.lookup x=some .free∧(X.env.kindOf x=some .cell∨X.env.kindOf x=some .free)∧∃c,cl.lookup x=some c
theorem gM{X:Cx}{scope:Scope}{N:List Str}{js:List Nat}(clos:closureFor scope X.env=pure (jB scope X.env):=by rfl)(same:(scope.names.filter fun p=>p.2 ==.free).all (fun p=>(X.env.cells.lookup p.1).isSome)=true:=by rfl)
  (has:scope.names.all (fun y=> !(y.2 ==.cell||y.2 ==.free)||((jB scope X.env).lookup y.1).isSome)=true:=by rfl) (len:js.length=N.length:=by rfl)
  (fr:(js.zip N).all (fun p=>X.N[p.1]? == some p.2&&scope.names.lookup p.2 == some .free&&(X.env.kindOf p.2 == some .cell||X.env.kindOf p.2 == some .free)&&((jB scope X.env).lookup p.2).isSome)=true:=by rfl):LamOk X scope (jB scope X.env) N js:=by
 refine⟨clos,fun x c e=>?_,fun x h=>?_,len,fun i x hx=>?_⟩
 ·have hm:=PySem.mem_of_lookup e
  unfold jB at hm
  obtain⟨p,hp,ep⟩:=Zap.mp (List.mem_reverse.mp hm)
  obtain⟨c',ec⟩:=Option.isSome_iff_exists.mp (Zbg.mp same _ hp)
  injection ep with e1 e2
  subst e1
  rw[ec]at e2 ⊢
  exact congrArg some e2
 ·have key:∀k,scope.names.lookup x=some k→(k == NameKind.cell||k == NameKind.free)=true→∃c,(jB scope X.env).lookup x=some c:=fun k h hk=>by
   have:=Zbg.mp has _ (PySem.mem_of_lookup h)
   simp only[hk,Bool.not_true,Bool.false_or]at this
   exact Option.isSome_iff_exists.mp this
  rcases h with h |h
  ·exact key _ h rfl
  ·exact key _ h rfl
 ·have hi:i < N.length:=(Zba.mp hx).1
  have ej:js[i]? =some (js[i]'(by omega)):=uv (by omega)
  have hz:(js.zip N)[i]? =some (js[i]'(by omega),x):=by rw[List.getElem?_zip_eq_some];exact⟨ej,hx⟩
  have:=Zbg.mp fr _ (List.mem_of_getElem? hz)
  simp only[sy,Bool.or_eq_true,beq_iff_eq]at this
  exact⟨_,ej,this.1.1.1,this.1.1.2,this.1.2,Option.isSome_iff_exists.mp this.2⟩
def vals(E:List Sl):List Nat→Option (List PyData)
 |[]=>some []
 |j::js=>((E[j]?).bind Sl.val).bind fun d=>(vals E js).map fun ds=>d::ds
theorem FrF.vals{K:Frag}{B F:Hp}{A:List Addr}{σ:L2.St}{H:Hp}{E:List Sl}{xs:List V}{Xs:List Sl}(h:FrF K B F A σ H E xs Xs):∀{js:List Nat} {ds:List PyData},PL.vals E js=some ds→∃vs,RpA K H vs ds∧vs.length=js.length∧∀i j:Nat,js[i]? =some j→∃v,vs[i]? =some v∧σ[j]? =some (some v)
 |[],ds,e=>by cases e;exact⟨[],.nil,rfl,fun i j z=>nomatch z⟩
 |j::js,ds,e=>by
  unfold PL.vals at e
  obtain⟨d,e1,e⟩:=Za.mp e
  obtain⟨ds',e2,e⟩:=Zad.mp e
  cases e
  obtain⟨s,es,ev⟩:=Za.mp e1
  obtain⟨o,A1,eo,hs⟩:=h.var es
  obtain⟨v,rfl,r,_⟩:=hs.val h.fh ev
  obtain⟨vs,r2,l2,f2⟩:=h.vals e2
  refine⟨v::vs,.cons r r2,by simp[l2],fun i k z=>?_⟩
  cases i with
  |zero=>cases z;exact⟨v,rfl,eo⟩
  |succ i=>exact f2 i k z
def nv(js:List Nat)(n:Nat)(r:List PyData→Option Str)(g:ln)(ok:List Str)(c:Str→PyData→Option Sl)(due:Int):bH:=fun E=>(vals E js).bind fun ds=>(fE r g (aX n ds)).bind fun a=>if a.1∈ok then (c a.1 (.int due)).map fun s=>(s,E)else none
section
variable {X:Cx} {k kg:Nat} {x gx:Str} {ok ps N:List Str} {cF:Str→PyData→Option Sl} {r:List PyData→Option Str} {e:Expr} {es:List Expr} {g:ln} {m m':Bool} {p gp gpos pos lp dp:Pos} {j:Nat} {due:Int} {params:Arguments} {scope:Scope} {cl:List (Str×Addr)} {js:List Nat} {c P:Addr}
theorem iZ (F:OwnF X.prog X.w X.K X.mg X.base k x ok cF) (hcode:X.env.code=.ref c) (hQ:ji X.K P=some (X.env.qual++"<lambda>")) (hC:codeHdIn X.K c P=true) (hr:Room (k+1) X.A) (hg:Gl X x) (D:OwnR X.prog X.w X.K X.mg X.base kg gx ps (jk X.K r)) (hkg:kg+1≤k) (L:LamOk X scope cl N js)
  (ha:∀(fa c':Addr) (A:Around) (outer:List Env) (s:Shared) (H:Hp),AX (FS (fun _ _=>False) X.prog X.w X.K X.mg X.base N (X.env.qual++"<lambda>") scope fa (.ref c') cl A outer s H) (e::es) m' g)
  (hdef:defaultsOf params X.env=([],[]):=by rfl) (hbind:∀(qual:Str) (pm cd ctv:Value),bindArgs (kla_fn "<lambda>" qual params (.Call (.Name gx gp) (e::es) [] gpos) scope cl pm cd ctv) ⟨[],[]⟩=pure []:=by intros;rfl)
  (sg:scope.names.lookup gx=some .globalImplicit:=by rfl) (sk:scope.kind=.function:=by rfl) (hco:scope.isCoroutine=false:=by rfl) (hgen:scope.isGenerator=false:=by rfl) (hcell:∀x∈scope.names,x.2≠ .cell:=by decide) (hdb:(gx == ("__debug__":Str))=false:=by decide) (hdbx:(x == ("__debug__":Str))=false:=by decide)
  (he:∀env,starEach (e::es) env=(false,eval e env)::starEach es env:=by intro _;rfl) (hpl:∀env,(backTo gpos (starEach es env)).any (·.1)=false:=by intro _;rfl)
  (he1:starEach [.Lambda params (.Call (.Name gx gp) (e::es) [] gpos) scope lp,.Constant (.int due) j dp] X.env=(false,eval (.Lambda params (.Call (.Name gx gp) (e::es) [] gpos) scope lp) X.env)::starEach [.Constant (.int due) j dp] X.env:=by rfl)
  (he2:backTo pos (starEach [.Constant (.int due) j dp] X.env)=[(false,eval (.Constant (.int due) j dp) X.env)]:=by rfl):
  EX X (.Call (.Name x p) [.Lambda params (.Call (.Name gx gp) (e::es) [] gpos) scope lp,.Constant (.int due) j dp] [] pos) false (nv js N.length r g ok cF due):=by
 intro pins s σ H Q I z
 obtain⟨B,E,xs,Xs,res,E',⟨F0,A0,fr⟩,_,e0,q⟩:=z
 obtain⟨ds,ev,e0⟩:=Za.mp e0
 obtain⟨⟨n,E1⟩,er,e0⟩:=Za.mp e0
 simp only at e0
 split at e0
 rotate_left
 ·cases e0
 rename_i hn
 obtain⟨sv,ec,e0⟩:=Zad.mp e0
 cases e0
 obtain⟨vs,rp,vl,vf⟩:=fr.vals ev
 obtain⟨f,fd,pF,hp2,hb,mx,kp,run⟩:=F.ex
 refine wpAny_Call_Name_kw (ip I hg mx ?_ hdbx)
 have hT:H P=some (.tbl _):=I.tab P _ hQ
 obtain⟨pt,hps,ht,hit⟩:=I.hok P _ hT
 obtain⟨hgP,hbA⟩:=Df I hps
 have C:=codeHd_of_K I.kIn hC
 have fin:∀(H3:Hp) (s3:Shared) (fa c':Addr) (pm ctv:Value),Inv X pins σ H3 s3→Same H H3→s3.heap.get? fa=some (kla_obj "<lambda>" (X.env.qual++"<lambda>") params (.Call (.Name gx gp) (e::es) [] gpos) scope cl pm c' ctv)→s3.heap.CodeRec (.ref c') (X.env.qual++"<lambda>")→
   wpAny (model X.prog X.w) X.A (spliced (backTo pos (starEach [.Constant (.int due) j dp] X.env))) (fun us s4=>X.K.In s4.heap∧wpAny (model X.prog X.w) X.A (call (.ref f) ([]++(.ref fa::us))) (EP X pins σ Q) X.xe s4) X.xe s3:=fun H3 s3 fa c' pm ctv I3 g3 ho hrec=>by
  rw[he2]
  refine Calls.spliced_cons (wpAny_Constant_int ?_)
  have I4:=I3.tok (s3.toks+1)
  refine Calls.spliced_nil ⟨I3.kIn,?_⟩
  have bd:=hb {s3 with toks:=s3.toks+1} [.ref fa,.int due s3.toks] I3.kIn hp2.symm
  refine wpAny_call (codeAny_mono (run X.A X.stack _ H3 [.ref fa,.int due s3.toks] fa _ _ (.int due) (.int due) n _ Q hr I4.env0 bd (.cons rfl (.cons ⟨_,rfl⟩ .nil)) (.int _) ho rfl (fun env s1 e01 hr1 keep=>?_) hn ec fun v H' gg rs=>q v H' ((fr.grow g3).told gg rs)) fun rr s' hq=>?_)
  ·have lam:LamIn N scope cl (eO N vs) H3 s3.heap:=by
    refine⟨fun y c e=>⟨I3.cell y c (L.same y c e),I3.freeC y c (L.same y c e)⟩,fun y z c e1 e2=>I3.ok.inj y z c (L.same y c e1) (L.same z c e2),L.has,fun i y v e1 e2=>?_,?_⟩
    ·obtain⟨jj,ej,en,k1,k2,cc,ecl⟩:=L.from_ i y e1
     obtain⟨v',ev',es'⟩:=vf i jj ej
     have hi:i < vs.length:=(Zba.mp ev').1
     have:v'=v:=by
      unfold L2.eO at e2
      rw[List.getElem?_append_left (by simpa using hi),List.getElem?_map,ev']at e2
      cases e2
      rfl
     subst this
     obtain⟨mm,_,hl⟩:=I3.loc
     obtain⟨u,ru,lk⟩:=hl jj y v' en es' (by
      rcases k2 with z |z
      ·exact .inr (.inl z)
      ·exact .inr (.inr z))
     refine⟨k1,u,cc,ru,ecl,?_⟩
     rcases lk with⟨z,_⟩ |⟨_,c2,e5,ic⟩
     ·rcases k2 with q |q
      ·rw[q]at z;cases z
      ·rw[q]at z;cases z
     ·rw[L.same y cc ecl]at e5
      cases e5
      exact ic
    ·unfold L2.eO
     have:=L.len
     simp
     omega
   exact zR D (hr1.mono hkg) e01 (lam.keeps keep) (rp.same g3) (by rw[←rp.len,vl,L.len];exact fQ _) (keep _ _ ho) (hrec.keeps keep) (fun s=>ha fa c' _ _ s H3) er (hbind _ _ _ _) sg sk hco hgen hcell hdb he hpl
  ·cases rr with
   |error er=>exact False.elim hq
   |ok fl=>
    cases fl with
    |ret u=>exact I4.after hq
    |next=>exact False.elim hq
    |brk=>exact False.elim hq
    |cont=>exact False.elim hq
 refine callWith_K (h₀:=X.base) I.ok.mod.kin kp ?_ he1 (by rw[he2];rfl)
 rw[he1]
 refine Calls.spliced_cons (PySem.W.kla_eval hdef ?_)
 cases hca:codeAmong lp pt.toList with
 |none=>
  refine PySem.W.kla_makeFunction L.clos I.ok.glob (I.mod.glob.keeps I.bk) hcode C hps ht hca hgP hbA fun c' ctv h' tk hx hge hlt hrec htb=>?_
  have I2:=qp (tk:=tk) I hT hps (fun b o hb e=>hx b o hb e) hge hrec htb
  have g:Same H (upd H c' (.own P)):=fg (I.hok.fresh hge) _
  have I3:=I2.kept (t':=tk) (fun b o eb=>gw (kla_obj "<lambda>" (X.env.qual++"<lambda>") params (.Call (.Name gx gp) (e::es) [] gpos) scope cl ((X.mg "__name__").getD .none) c' ctv) eb)
  exact fin _ _ _ _ _ _ I3 g (lh _ rfl) (hrec.keeps fun b o e=>gw _ e)
 |some cv=>
  obtain⟨c',rfl,ho,hrec⟩:=hit lp cv hca
  refine PySem.W.kla_makeFunctionHit L.clos I.ok.glob (I.mod.glob.keeps I.bk) hcode C hps ht hca hbA fun ctv h' tk hx hsz=>?_
  have I3:=I.kept (t':=tk) (fun b o eb=>gw (kla_obj "<lambda>" (X.env.qual++"<lambda>") params (.Call (.Name gx gp) (e::es) [] gpos) scope cl ((X.mg "__name__").getD .none) c' ctv) (hx b o eb))
  exact fin _ _ _ _ _ _ I3 (Same.refl _) (lh _ rfl) (hrec.keeps fun b o e=>gw _ (hx b o e))
end
end PL
namespace PL
open PySem PySem.Spec PyProof.Rows L2 Nh
theorem xK(x:Bool)(xs:List Bool):CS (.bl x) (xs.map .bl)=xs.contains x:=by
 induction xs with
 |nil=>rfl
 |cons y xs ih=>
  rw[List.contains_cons,←ih]
  show(yA (.bl y) (.bl x)||CS (.bl x) (xs.map .bl))=_
  congr 1
  cases x <;> cases y <;> rfl
def Cf(neg:Bool):PyData→PyData→Option PyData
 |.bool x,.list ds=>(nN ds).map fun xs=>.bool (if neg then !xs.contains x else xs.contains x)
 |_,_=>none
section
variable {X:Cx} {a b:Expr} {m1 m2:Bool} {f g:bH} {pos:Pos}
theorem Cg(neg:Bool):iH X.K (Gi X.K neg) (fu (Cf neg)):=by
 refine kI fun d1 d2 d v1 v2 H Q e r1 r2=>?_
 unfold Cf at e
 split at e
 ·obtain⟨xs,ex,rfl⟩:=Zad.mp e
  cases r1
  cases r2 with
  |lst h1 h2=>
   have z:=sX h2 ex
   subst z
   exact⟨_,rfl,fun q=>⟨_,_,rfl,.inl h1,rfl,by simp[Zbg,iE],by rw[xK];exact q⟩⟩
 ·cases e
theorem EE(ha:EX X a m1 f)(hb:EX X b m2 g)(hm:behindInMarks .In b=false:=by with_unfolding_all rfl):TX X (.Compare a [.In] [b] pos) (m1||m2) (gS (ag (fu (Cf false)) m2 f g)):=mh p8 (Cg false) ha hb hm
end
end PL
namespace PL
open PySem PySem.Spec PyProof.Rows L2 Nh
section
variable {M:Model} {A:Around} {E:Value→Shared→Prop} {s:Shared}
theorem tR{base h:Heap}{env:Env}{outer:List Env}{L e:Addr}{cls:Value}{args:List Value}{Q:Unit→Shared→Prop}
  (hfr:A.frames=some (env::outer)) (hf:env.frame=some L) (hkb:base.StaysIn h) (hl:h.FunFrames base (env::outer)) (hx:Heap.MadeExcOf h s.heap e cls args)
  (hQ:∀h' t,Heap.HeldW base (env::outer) e cls (.ref t) L h'→s.heap.UpToSlots h'→Q () {s with heap:=h'}):wpAny M A (noteFrame (.ref e) env) Q E s:=by
 obtain⟨t,he,htn,ht⟩:=hx.there
 have hen:base.get? e=none:=by
  cases hq:base.get? e with
  |none=>rfl
  |some o'=>have:=hkb e o' hq;rw[hx.new]at this;cases this
 have h1:(#[Value.ref t,.none,.none,.none,.bool false,.none]:Array Value)[1]? =some Value.none:=rfl
 unfold noteFrame
 simp only[hf]
 refine wpAny_bind (wpAny_field he rfl h1 ?_)
 rw[if_neg (show ¬((Value.none != Value.none)=true)from by decide)]
 exact wpAny_entryW (a0:=.ref t) hfr (hl.of_keeps fun b o hb _=>⟨o,hx.keeps b o hb,rfl⟩) hf he (fun b o hb=>hx.keeps b o (hkb b o hb)) hen rfl (by simp) rfl fun h' ⟨x1,x2,x3,x4⟩=>hQ h' t ⟨x1,hen,x2,x3⟩ x4
theorem vi{base h:Heap}{env:Env}{outer:List Env}{L e:Addr}{cls:Value}{args:List Value}{Q:Unit→Shared→Prop}
  (hfr:A.frames=some (env::outer)) (hf:env.frame=some L) (hkb:base.StaysIn h) (hl:h.FunFrames base (env::outer)) (hx:Heap.MadeExcOf h s.heap e cls args)
  (hQ:∀h' t,HeldC base (env::outer) e cls (.ref t) L h'→s.heap.UpToSlots h'→Q () {s with heap:=h'}):wpAny M A (noteFrame (.ref e) env) Q E s:=
 qj (P:=fun h'=>∃t,Heap.HeldW base (env::outer) e cls (.ref t) L h'∧s.heap.UpToSlots h') (rD _ _) (tz hx) (fun k=>tR hfr hf hkb hl hx fun h' t a b=>k h' ⟨t,a,b⟩) fun h' ⟨t,a,b⟩ z=>hQ h' t (.of a z) b
theorem xL{base:Heap}{env:Env}{l:List Env}{L e:Addr}{cls a0:Value}(hf:env.frame=some L)(hh:HeldC base l e cls a0 L s.heap)
  (hE:∀h',HeldC base l e cls a0 L h'→s.heap.UpToSlots h'→E (.ref e) {s with heap:=h'}):cameBackBy M A env E (.ref e) s:=by
 obtain⟨hkb,hen,hl,⟨oe,vs,T,oT,ts,he,hcls,hd,h1,hnT,hTe,hT,hdT,h3⟩,c0⟩:=hh
 have hsz3:3 < ts.size:=(Array.getElem?_eq_some_iff.mp h3).1
 have other:∀b,b≠T→(s.heap.update T (Obj.mapFields (·.setIfInBounds 3 ((some L).elim Value.none fun f=>rawInt f)))).get? b=s.heap.get? b:=
  fun b hb=>AL _ _ (Ne.symm hb)
 have noRecord:∀b o,s.heap.get? b=some o→(∀vs,o.data≠ .fields vs)→b≠T:=fun b o hb hnf q=>by
  rw[q,hT]at hb;injection hb with hb;subst hb;exact hnf ts hdT
 unfold cameBackBy
 refine wpAny_bind (wpAny_field he hd h1 ?_)
 rw[if_neg (show ¬((Value.ref T == Value.none)=true)from by simp)]
 rw[hf]
 unfold setFlight
 refine wpAny_bind (wpAny_field he hd h1 ?_)
 rw[if_pos (show(Value.ref T != Value.none)=true from by simp)]
 refine wpAny_setField hT hdT hsz3 (hE _ ⟨fun b o hbo=>(other b fun q=>by rw[q,hnT]at hbo;cases hbo).trans (hkb b o hbo),hen,
  hl.of_keeps fun b o hb hnf=>⟨o,(other b (noRecord b o hb hnf)).trans hb,rfl⟩,?_⟩ fun b o hb hnf=>⟨o.slots,(other b (noRecord b o hb hnf)).trans hb⟩)
 exact⟨⟨oe,vs,T,_,_,(other e (Ne.symm hTe)).trans he,hcls,hd,h1,hnT,hTe,Heap.get?_update_self _ hT (Obj.isFreed_of_fields (Obj.data_mapFields hdT _)),Obj.data_mapFields hdT _,by simp[hsz3]⟩,c0.upd (u7 (by decide))⟩
end
def jG(g:gK)(b:dO)(r:iD):List PyData→iD
 |[]=>fun _=>none
 |d::ds=>fun E=>(g d E).bind fun E1=>match r E1 with
  |some x=>some x
  |none=>match b E1 with
   |some (E2,.nx)=>jG g b r ds E2
   |some (E2,.ct)=>jG g b r ds E2
   |_=>none
def FV(it:lq)(g:gK)(b:dO)(r:iD):iD:=fun E=>(it E).bind fun a=>jG g b r a.1 a.2
def zS(X:Cx)(mk:Bool)(n:Str)(B:Hp)(E':List Sl)(e:Value)(s':Shared):Prop:=∃pins σ C H' ea,e=.ref ea∧nsIn X.K mainGlobals n=some (some (.ref C))∧Frm X.K B σ H' E' [] []∧
 ((mk=true∧∃s h' vs,Inv X pins σ H' s∧Heap.MadeExcOf s.heap h' ea (.ref C) vs∧s'={s with heap:=h'})∨
  (∃H s a0 Bb,Inv X pins σ H s∧s'.os=s.os∧AllBare s'.gens∧FlyC Bb X.stack ea (.ref C) a0 s'.heap∧HOk X.prog X.w H' Bb∧UnB (jS X.stack) H H' s.heap Bb s'.heap)∨
  (∃H s a0 Bb,Inv X pins σ H s∧s'.os=s.os∧AllBare s'.gens∧HeldC Bb X.stack ea (.ref C) a0 X.env.locals s'.heap∧HOk X.prog X.w H' Bb∧UnB (jS X.stack) H H' s.heap Bb s'.heap))
theorem zT{X:Cx}{mk:Bool}{n:Str}{B:Hp}{E':List Sl}(hst:X.stack=X.env::X.outer)(hfr:X.env.frame=some X.env.locals):PassesOwn (model X.prog X.w) X.A X.env (zS X mk n B E'):=by
 intro e s' h
 obtain⟨pins,σ,C,H',ea,rfl,ns,fr,h⟩:=h
 have came:∀(s1:Shared) (H:Hp) (s:Shared) (a0:Value) (Bb:Heap),Inv X pins σ H s→s1.os=s.os→AllBare s1.gens→HeldC Bb X.stack ea (.ref C) a0 X.env.locals s1.heap→HOk X.prog X.w H' Bb→UnB (jS X.stack) H H' s.heap Bb s1.heap→cameBackBy (model X.prog X.w) X.A X.env (zS X mk n B E') (.ref ea) s1:=fun s1 H s a0 Bb I os bare hh hok u=>
  xL hfr hh fun h2 x1 x2=>⟨pins,σ,C,H',ea,rfl,ns,fr,.inr (.inr ⟨H,s,a0,Bb,I,os,bare,x1,hok,u.on hh.2.2.1 x2⟩)⟩
 show wpAny _ _ (noteFrame _ _) _ _ _
 rcases h with⟨hm,s,h',vs,I,hx,rfl⟩ |⟨H,s,a0,Bb,I,os,bare,fl,hok,u⟩ |⟨H,s,a0,Bb,I,os,bare,hh,hok,u⟩
 ·have st:=I.stack
  have hin:∀env∈X.stack,∀b,env.frame=some b→b∈jS X.stack:=fun env he b hb=>List.mem_filterMap.mpr ⟨env,he,hb⟩
  have ff:=PySem.W.funFrames_hide st hin
  refine vi (base:=hideAll s.heap (jS X.stack)) (h:=s.heap) (outer:=X.outer) (by rw[I.ok.frames,hst]) hfr (fun b o q=>of_hideAll _ q) (hst▸ff) hx fun h2 t x1 x2=>?_
  refine came {s with heap:=h2} H' s (.ref t) _ I rfl I.bare (hst▸x1) (fun a o e=>?_) ⟨fun b o e n hb=>hideAll_get _ e hb,fun b o e n hb=>?_,fun _ _ _ n=>n,fun b o e hb=>⟨o,hideAll_get _ e hb⟩,fun _ _ e=>e,fun _ _ _ e=>e,fun _ _ e=>e⟩
  ·refine(I.hok a o e).stay (fun b u hb q=>hideAll_get _ q fun z=>?_) (fun _ q=>q) fun _ _ q=>q
   have n:=I.stkFree b z
   rcases hb with rfl |hb
   ·rw[n]at e;cases e
   ·rw[n]at hb;cases hb
  ·obtain⟨_,o',ho',hd⟩:=st.mem hb
   rw[e]at ho'
   cases ho'
   exact x2 b o (hx.keeps b o e) hd
 ·refine mw (outer:=X.outer) (by rw[I.ok.frames,hst]) hfr (hst▸fl) fun h2 x1 x2=>?_
  exact came {s' with heap:=h2} H s a0 Bb I os bare (hst▸x1) hok (u.on fl.2.2.1 x2)
 ·exact wpAny_noteFrame_againW hfr hh.2.2.2.1 (came s' H s a0 Bb I os bare hh hok u)
theorem EF{X:Cx}{mk:Bool}{tg iter:Expr}{body:List Stmt}{m:Bool}{it:lq}{g:gK}{b:dO}{r:iD}{pos:Pos}(hst:X.stack=X.env::X.outer)(hfr:X.env.frame=some X.env.locals)(hc:X.calm=true)(hi:∀W,IX (X.wish W) tg iter m it)(hg:∀W,GX (X.wish W) tg g)(hb:uM X.nox body b)(hr:∀W,BV (X.wish W) mk true body r)
  (hs:∀x,foldedSetIterable iter X.env x=pure x:=by intro _;rfl):RX X mk true (.For tg iter body [] pos) (FV it g b r):=fun pins s σ H B E n E' I fr e k=>by
 obtain⟨⟨ds,E1⟩,e1,e⟩:=Za.mp e
 have hbW:PSs (X.wish (zS X mk n B E')) body (rs X.K b):=fun pins s σ H D I hw=>
  wpAny_mono (hb pins s σ H D (I.unwish.wish _) hw) (fun _ _ q=>SP.unwish (X:=X) q |> fun z=>by
   rename_i f s'
   cases f with
   |next=>obtain⟨σ',H',I,q⟩:=z;exact⟨σ',H',I.wish _,q⟩
   |brk=>obtain⟨σ',H',I,q⟩:=z;exact⟨σ',H',I.wish _,q⟩
   |cont=>obtain⟨σ',H',I,q⟩:=z;exact⟨σ',H',I.wish _,q⟩
   |ret u=>obtain⟨v,σ',H',I,r,q⟩:=z;exact⟨v,σ',H',I.wish _,r,q⟩) fun _ _ z=>z.elim
 have hbody:PSs (X.wish (zS X mk n B E')) body (fun D σ H=>rs X.K b D σ H∨∃B' Ei,Same B B'∧Frm X.K B' σ H Ei [] []∧r Ei=some (n,E')):=fun pins s σ H D I hw=>by
  rcases hw with hw |⟨B',Ei,sb,fri,er⟩
  ·exact hbW pins s σ H D I hw
  ·refine wpAny_mono (hr _ pins s σ H B' Ei n E' I fri er fun pp _ σ' C H' ns fr'=>⟨fun hm=>?_,?_,fun _=>?_⟩) (fun _ _ z=>z.elim) fun _ _ z=>z
   ·exact fun s h' ea vs I hx=>⟨pp,σ',C,H',ea,rfl,ns,fr'.base sb,.inl ⟨hm,s,h',vs,I.unwish,hx,rfl⟩⟩
   ·exact fun H s ea s' a0 Bb I os bare fl hok u=>⟨pp,σ',C,H',ea,rfl,ns,fr'.base sb,.inr (.inl ⟨H,s,a0,Bb,I.unwish,os,bare,fl,hok,u⟩)⟩
   ·exact fun H s ea s' a0 Bb I os bare fl hok u=>⟨pp,σ',C,H',ea,rfl,ns,fr'.base sb,.inr (.inr ⟨H,s,a0,Bb,I.unwish,os,bare,fl,hok,u⟩)⟩
 have q:=yn (X:=X.wish (zS X mk n B E')) (pos:=pos) (zT hst hfr) hc (hi _) (hg _) hbody hs pins s σ H {nx:=fun _ _=>False,bk:=fun _ _=>False,ct:=fun _ _=>False,rt:=fun _ _=>False} (I.wish _) (by
  refine⟨B,E,[],[],ds,E1,fr,fun _=>Calm.nil rfl,e1,fun B' J H1 hB fr1 ok=>?_⟩
  refine⟨fun i mm σ' H'=>mm=ds.length - i∧i≤ds.length∧∃Ei,jG g b r (ds.drop i) Ei=some (n,E')∧Frm X.K B' σ' H' Ei [] [],⟨ds.length,by simp,Nat.zero_le _,E1,by simpa using e,fr1⟩,?_⟩
  rintro i mm σ' H' ⟨rfl,hi,Ei,ei,F,A,fri⟩
  obtain⟨go,stop⟩:=ok i (Same.refl _) fri
  by_cases hlt:i < ds.length
  ·obtain⟨d,ed⟩:∃d,ds[i]? =some d:=⟨ds[i],uv hlt⟩
   obtain⟨g1,yl⟩:=go d ed
   have edr:ds.drop i=d::ds.drop (i+1):=by
    rw[List.drop_eq_getElem_cons hlt]
    congr 1
    exact Option.some.inj ((uv hlt).symm.trans ed)
   rw[edr]at ei
   obtain⟨E3,e3,ei⟩:=Za.mp ei
   refine .inr ⟨g1,fun σ2 H2=>∃Ej,jG g b r (ds.drop (i+1)) Ej=some (n,E')∧Frm X.K B' σ2 H2 Ej [] [],fun σ2 H2 ⟨Ej,ej,frj⟩=>⟨ds.length - (i+1),by omega,rfl,hlt,Ej,ej,frj⟩,fun x H2 y=>?_⟩
   refine⟨B',Ei,[],[],d,E3,yl x H2 y,Still.nil rfl,e3,fun σ3 H3 fr3=>?_⟩
   split at ei
   ·rename_i x er
    cases ei
    exact .inr ⟨B',E3,hB,fr3,er⟩
   ·split at ei
    ·rename_i E2 eb
     exact .inl ⟨B',E3,[],[],E2,.nx,fr3,rfl,eb,fun σ4 H4 fr4=>⟨E2,ei,fr4⟩⟩
    ·rename_i E2 eb
     exact .inl ⟨B',E3,[],[],E2,.ct,fr3,rfl,eb,fun σ4 H4 fr4=>⟨E2,ei,fr4⟩⟩
    ·cases ei
  ·have e0:i=ds.length:=by omega
   rw[e0,List.drop_length]at ei
   cases ei)
 refine wpAny_mono q (fun f s1 z=>?_) fun e1 s1 z=>?_
 ·cases f with
  |next=>obtain⟨_,_,_,z⟩:=z;exact z
  |brk=>obtain⟨_,_,_,z⟩:=z;exact z
  |cont=>obtain⟨_,_,_,z⟩:=z;exact z
  |ret u=>obtain⟨_,_,_,_,_,z⟩:=z;exact z
 ·obtain⟨pp,σ',C,H',ea,rfl,ns,fr',z⟩:=z
  obtain⟨k1,k2,k3⟩:=k pp (fun h=>nomatch h) σ' C H' ns fr'
  rcases z with⟨hm,s2,h2,vs,I2,hx,rfl⟩ |⟨H2,s2,a0,Bb,I2,os,bare,fl,hok,u⟩ |⟨H2,s2,a0,Bb,I2,os,bare,fl,hok,u⟩
  ·exact k1 hm s2 h2 ea vs I2 hx
  ·exact k2 H2 s2 ea s1 a0 Bb I2 os bare fl hok u
  ·exact k3 rfl H2 s2 ea s1 a0 Bb I2 os bare fl hok u
end PL
namespace PL
open PySem PySem.Spec PyProof.Rows L2 Nh
def FW:bH:=fun E=>some (.sh (.dict []),E)
theorem FX{X:Cx}{pos:Pos}:EX X (.Dict [] [] pos) false FW:=by
 refine bW yU fun σ H Q z=>?_
 obtain⟨B,E,xs,Xs,res,E',⟨F,A,fr⟩,c,e,q⟩:=z
 cases e
 intro p hp
 have fr2:=fr.grow (fg hp (.dK []))
 exact q _ _ ⟨_,_,fr2.push ⟨rfl,_,rfl,.dct (.inl (by show(if p∈A then none else _)=_;rw[if_neg (fr.newA hp)];exact upd_same)) .nil⟩⟩
end PL
namespace PL
open PySem L2 Nh
def zU:Expr→Bool
 | .Starred .. =>false
 |_=>true
theorem Ci{e:Expr}{es:List Expr}{env:Env}(h:zU e=true):starEach (e::es) env=(false,eval e env)::starEach es env:=by
 cases e <;> first |rfl |cases h
inductive DL (X:Cx):List Expr→Bool→lq→Prop
 |nil:DL X [] false bi
 |cons {e:Expr} {es:List Expr} {m1 m2:Bool} {f:bH} {d:lq}:EX X e m1 f→zU e=true→DL X es m2 d→DL X (e::es) (m1||m2) (ak f d)
section
variable {X:Cx} {es:List Expr} {m:Bool} {d:lq} {pos:Pos}
theorem DL.dx(h:DL X es m d):DX X es m d:=by
 induction h with
 |nil=>exact D4
 |cons a n _ ih=>exact BH a ih (Ci n)
theorem eQ(h:DL X es m d):EX X (.List es pos) m (cQ d):=D6 h.dx
theorem kQ{x1}(h:DL X es m d):EX X (.Tuple es x1 pos) m (gJ d):=D5 h.dx
end
def jH:List Nat→Expr→Expr
 |[],e=>e
 |k::r,e=>match e with
  | .Call _ as _ _=>jH r (as.getD k e)
  | .BinOp a _ b _=>if k=0 then jH r a else jH r b
  | .Subscript a b _=>if k=0 then jH r a else jH r b
  | .Compare a _ cs _=>if k=0 then jH r a else jH r (cs.getD (k - 1) e)
  | .BoolOp _ vs _=>jH r (vs.getD k e)
  | .UnaryOp _ a _=>jH r a
  | .List es _=>jH r (es.getD k e)
  | .Tuple es _ _=>jH r (es.getD k e)
  | .ListComp _ (c::_) _ _=>jH r c.iter
  |e=>e
def jI(v:Expr):List Nat→Expr→Expr
 |[],_=>v
 |k::r,e=>match e with
  | .Call f as ks p=> .Call f (as.set k (jI v r (as.getD k e))) ks p
  | .BinOp a o b p=>if k=0 then .BinOp (jI v r a) o b p else .BinOp a o (jI v r b) p
  | .Subscript a b p=>if k=0 then .Subscript (jI v r a) b p else .Subscript a (jI v r b) p
  | .Compare a os cs p=>if k=0 then .Compare (jI v r a) os cs p else .Compare a os (cs.set (k - 1) (jI v r (cs.getD (k - 1) e))) p
  | .BoolOp o vs p=> .BoolOp o (vs.set k (jI v r (vs.getD k e))) p
  | .UnaryOp o a p=> .UnaryOp o (jI v r a) p
  | .List es p=> .List (es.set k (jI v r (es.getD k e))) p
  | .Tuple es n p=> .Tuple (es.set k (jI v r (es.getD k e))) n p
  | .ListComp el (c::cs) sc p=> .ListComp el ({c with iter:=jI v r c.iter}::cs) sc p
  |e=>e
def pL:List Nat→List Stmt→Expr
 |[],_=> .Constant .none 0 ⟨0,0,0,0⟩
 |i::r,b=>match b[i]? with
  |some (.Assign _ e _)=>jH r e
  |some (.Return (some e) _)=>jH r e
  |some (.Expr e _)=>jH r e
  |some (.If t bb _ _)=>match r with
   | 0::q=>jH q t
   | 1::q=>pL q bb
   |_=>t
  |some (.For t it bb _ _)=>match r with
   | 0::q=>jH q it
   | 1::q=>pL q bb
   |_=>t
  |_=> .Constant .none 0 ⟨0,0,0,0⟩
def xM(v:Expr):List Nat→List Stmt→List Stmt
 |[],b=>b
 |i::r,b=>match b[i]? with
  |some (.Assign t e p)=>b.set i (.Assign t (jI v r e) p)
  |some (.Return (some e) p)=>b.set i (.Return (some (jI v r e)) p)
  |some (.Expr e p)=>b.set i (.Expr (jI v r e) p)
  |some (.If t bb o p)=>match r with
   | 0::q=>b.set i (.If (jI v q t) bb o p)
   | 1::q=>b.set i (.If t (xM v q bb) o p)
   |_=>b
  |some (.For t it bb o p)=>match r with
   | 0::q=>b.set i (.For t (jI v q it) bb o p)
   | 1::q=>b.set i (.For t it (xM v q bb) o p)
   |_=>b
  |_=>b
def Cj:Expr→List Expr
 | .List es _=>es
 | .Tuple es _ _=>es
 |_=>[]
def wu(es:List Expr):Expr→Expr
 | .List _ p=> .List es p
 | .Tuple _ n p=> .Tuple es n p
 |e=>e
structure BodyOk (X:Cx) (body:List Stmt) (g:dO):Prop where
 of:uM X body g
theorem Ck{X:Cx}{body:List Stmt}{g:dO}(path:List Nat){m:Bool}{d:lq}(hP:∀Y:Cx,DL Y (Cj (pL path body)) m d)(key:∀es,(∀Y:Cx,DL Y es m d)→BodyOk X (xM (wu es (pL path body)) path body) g)(hb:xM (wu (Cj (pL path body)) (pL path body)) path body=body:=by rfl):BodyOk X body g:=by
 have:=key _ hP
 rw[hb]at this
 exact this
theorem rR{X:Cx}{body:List Stmt}{g:dO}(path:List Nat){m:Bool}{d:lq}(hP:DL X (Cj (pL path body)) m d)(key:∀es,DL X es m d→BodyOk X (xM (wu es (pL path body)) path body) g)(hb:xM (wu (Cj (pL path body)) (pL path body)) path body=body:=by rfl):BodyOk X body g:=by
 have:=key _ hP
 rw[hb]at this
 exact this
end PL
namespace PL
open PySem PySem.Spec PyProof.Rows L2 Nh
def RE(X:Cx)(al:Bool)(e:Expr)(r:iD):Prop:=∀pins s σ H B E n E',Inv X pins σ H s→Frm X.K B σ H E [] []→r E=some (n,E')→
 (∀pins',(al=false→pins'=pins)→∀σ' C H',nsIn X.K mainGlobals n=some (some (.ref C))→Frm X.K B σ' H' E' [] []→zw X C pins' σ' H'∧(al=true→tD X C pins' σ' H'))→wpAny (model X.prog X.w) X.A (eval e X.env) (fun _ _=>False) X.xe s
section
variable {X:Cx} {k:Nat} {x:Str} {ps:List Str} {r:iD} {p pos cpos:Pos} {e:Expr} {es:List Expr} {m al mk:Bool}
theorem nQ {q:List PyData→Option Str} {g:ln} (D:OwnR X.prog X.w X.K X.mg X.base k x ps (jk X.K q)) (hr:Room k X.A) (hg:Gl X x) (ha:AX X.nox (e::es) m g) (hdb:(x == ("__debug__":Str))=false:=by decide) (he:starEach (e::es) X.env=(false,eval e X.env)::starEach es X.env:=by rfl) (hpl:(backTo pos (starEach es X.env)).any (·.1)=false:=by rfl):
  RE X al (.Call (.Name x p) (e::es) [] pos) (fE q g):=fun pins s σ H B E n E' I fr ee k=>
 j0 D hr hg ha hdb he hpl I fr ee fun C H' z f=>(k pins (fun _=>rfl) σ C H' z f).1
theorem vj {ps:List Str} {sp:Sp} {k:Nat} (D:Own X.prog X.w X.K X.mg X.base k x ps sp) (hg:Gl X x) (h:RE X al e r) (hdb:(x == ("__debug__":Str))=false:=by decide) (he:starEach (e::es) X.env=(false,eval e X.env)::starEach es X.env:=by rfl) (hpl:(backTo pos (starEach es X.env)).any (·.1)=false:=by rfl):
  RE X al (.Call (.Name x p) (e::es) [] pos) r:=fun pins s σ H B E n E' I fr ee k=>by
 obtain⟨f,fd,F,b,mx,kp⟩:=D
 refine wpAny_Call_Name_kw (ip I hg mx ?_ hdb)
 refine callWith_K (h₀:=X.base) I.ok.mod.kin kp ?_ he hpl
 rw[he]
 exact Calls.spliced_cons (wpAny_mono (h pins s σ H B E n E' I fr ee k) (fun _ _ z=>z.elim) fun _ _ z=>z)
theorem rS(h:RE X al e r):RX X mk al (.Return (some e) pos) r:=fun pins s σ H B E n E' I fr ee k=>
 wpAny_Return_some (eG (h pins s σ H B E n E' I fr ee fun pp q σ' C H' z f=>(k pp q σ' C H' z f).2) fun _ _ z=>z.elim)
theorem Cl{y:Str}{pos':Pos}(h:RE X al e r)(hs:swapsWith e (some (.Name y pos')) pos.line X.env=pure false:=by rfl):RX X mk al (.Assign [.Name y pos'] e pos) r:=fun pins s σ H B E n E' I fr ee k=>
 wpAny_Assign_Name (eG (h pins s σ H B E n E' I fr ee fun pp q σ' C H' z f=>(k pp q σ' C H' z f).2) fun _ _ z=>z.elim) hs
end
theorem Cn{a b:Env}(h:a.frame=b.frame)(e:Value):noteFrame e a=noteFrame e b:=by
 unfold noteFrame PySem.frameOf
 rw[h]
section
variable {M:Model} {A:Around} {E:Value→Shared→Prop} {s:Shared}
theorem tS{base:Heap}{l:List Env}{L e:Addr}{cls a0:Value}{Q:Unit→Shared→Prop}(hh:HeldC base l e cls a0 L s.heap)
  (hQ:∀h',HeldC base l e cls a0 L h'→s.heap.UpToSlots h'→Q () {s with heap:=h'}):wpAny M A (setFlight (.ref e) (some L)) Q E s:=by
 obtain⟨hkb,hen,hl,⟨oe,vs,T,oT,ts,he,hcls,hd,h1,hnT,hTe,hT,hdT,h3⟩,c0⟩:=hh
 have hz:3 < ts.size:=(Array.getElem?_eq_some_iff.mp h3).1
 have other:∀b,b≠T→(s.heap.update T (Obj.mapFields (·.setIfInBounds 3 ((some L).elim Value.none fun f=>rawInt f)))).get? b=s.heap.get? b:=fun b hb=>AL _ _ (Ne.symm hb)
 have noRec:∀b o,s.heap.get? b=some o→(∀vs,o.data≠ .fields vs)→b≠T:=fun b o hb hnf q=>by
  rw[q,hT]at hb;injection hb with hb;subst hb;exact hnf ts hdT
 unfold setFlight
 refine wpAny_bind (wpAny_field he hd h1 ?_)
 rw[if_pos (show(Value.ref T != Value.none)=true from by simp)]
 refine wpAny_setField hT hdT hz (hQ _ ⟨fun b o q=>(other b fun z=>by rw[z,hnT]at q;cases q).trans (hkb b o q),hen,
  hl.of_keeps fun b o hb hnf=>⟨o,(other b (noRec b o hb hnf)).trans hb,rfl⟩,?_⟩ fun b o hb hnf=>⟨o.slots,(other b (noRec b o hb hnf)).trans hb⟩)
 exact⟨⟨oe,vs,T,_,_,(other e (Ne.symm hTe)).trans he,hcls,hd,h1,hnT,hTe,Heap.get?_update_self _ hT (Obj.isFreed_of_fields (Obj.data_mapFields hdT _)),Obj.data_mapFields hdT _,by simp[hz]⟩,c0.upd (u7 (by decide))⟩
theorem xN{base:Heap}{env:Env}{l:List Env}{L e:Addr}{cls a0:Value}{what:String}{Q:Value→Shared→Prop}(hf:env.frame=some L)(hh:HeldC base l e cls a0 L s.heap)
  (hE:∀h',HeldC base l e cls a0 L h'→s.heap.UpToSlots h'→E (.ref e) {s with heap:=h'}):wpAny M A (PySem.passOn what (.ref e) env) Q E s:=by
 unfold PySem.passOn
 have hh':=hh
 obtain⟨hkb,hen,hl,⟨oe,vs,T,oT,ts,he,hcls,hd,h1,hnT,hTe,hT,hdT,h3⟩,c0⟩:=hh
 refine wpAny_bind (wpAny_field he hd h1 ?_)
 rw[if_neg (show ¬((Value.ref T == Value.none)=true)from by simp),hf]
 exact wpAny_bind (tS hh' fun h' a b=>wpAny_throw (hE h' a b))
end
theorem lI{h:Heap}{C:Addr}{o o':Obj}(e:h.get? C=some o)(nf:o'.isFreed=false):(h.update C fun _=>o').get? C=some o':=Heap.get?_update_self (fun _=>o') e nf
theorem jJ{h h' B B':Heap}:∀{l:List Env},(∀b,B.get? b=none→B'.get? b=none)→(∀b,B.get? b=none→h'.get? b=h.get? b)→h.FunFrames B l→h'.FunFrames B' l
 |[],_,_,_=>trivial
 |_::_,n,k,⟨a,⟨L,o,hf,hn,ho,hd⟩,r⟩=>⟨a,⟨L,o,hf,n L hn,(k L hn).trans ho,hd⟩,jJ n k r⟩
theorem HeldC.swap{B h h':Heap}{l:List Env}{e:Addr}{cls a0:Value}{L C:Addr}{o o':Obj}(x:HeldC B l e cls a0 L h)(hs:Heap.SameBut C h h')(eB:B.get? C=some o)(eh:h'.get? C=some o')(nf:o'.isFreed=false):HeldC (B.update C fun _=>o') l e cls a0 L h':=by
 obtain⟨k,hn,ff,⟨oe,vs,T,oT,ts,he,hc,hd,h1,hnT,hTe,hT,hdT,h3⟩,oc,vc,hec,hdc,h2⟩:=x
 have nC:∀b,B.get? b=none→b≠C:=fun b q z=>by rw[z,eB]at q;cases q
 have oth:∀b,b≠C→(B.update C fun _=>o').get? b=B.get? b:=fun b q=>AL _ _ (Ne.symm q)
 have same:∀b,B.get? b=none→h'.get? b=h.get? b:=fun b q=>hs.2 b (nC b q)
 have stil:∀b,B.get? b=none→(B.update C fun _=>o').get? b=none:=fun b q=>(oth b (nC b q)).trans q
 refine⟨fun b u q=>?_,stil e hn,jJ stil same ff,⟨oe,vs,T,oT,ts,(same e hn).trans he,hc,hd,h1,stil T hnT,hTe,(same T hnT).trans hT,hdT,h3⟩,oc,vc,(same e hn).trans hec,hdc,h2⟩
 by_cases z:b=C
 ·subst z
  rw[lI eB nf]at q
  rw[eh];exact q
 ·rw[oth b z]at q
  exact(hs.2 b z).trans (k b u q)
theorem UnB.swap{fs:List Addr}{H H':Hp}{h B h2 h3:Heap}{C:Addr}{o oB o':Obj}(u:UnB fs H H' h B h2)(nC:C∉fs)(hH:H C=none)(e:h.get? C=some o)(eB:B.get? C=some oB)(nf:o'.isFreed=false)(hs:∀b,b≠C→h3.get? b=h2.get? b):
  UnB fs H H' (h.update C fun _=>o') (B.update C fun _=>o') h3:=by
 have oth:∀(g:Heap) b,b≠C→(g.update C fun _=>o').get? b=g.get? b:=fun g b q=>AL _ _ (Ne.symm q)
 refine⟨fun b p q n hb=>?_,fun b p q n hb=>?_,fun b p q n=>?_,fun b p q hb=>?_,u.tups,u.frzs,u.tbls⟩
 ·by_cases z:b=C
  ·subst z;rw[lI e nf]at q;rw[lI eB nf];exact q
  ·rw[oth h b z]at q;rw[oth B b z];exact u.keep b p q n hb
 ·have z:b≠C:=fun z=>nC (z▸hb)
  rw[oth h b z]at q
  obtain⟨sl,w⟩:=u.slot b p q n hb
  exact⟨sl,(hs b z).trans w⟩
 ·by_cases z:b=C
  ·subst z;exact u.free b o e hH
  ·rw[oth h b z]at q;exact u.free b p q n
 ·by_cases z:b=C
  ·subst z;exact⟨o',lI eB nf⟩
  ·rw[oth h b z]at q;obtain⟨w,hw⟩:=u.there b p q hb;exact⟨w,(oth B b z).trans hw⟩
theorem HOk.swap{P:Program}{w:World}{H:Hp}{B:Heap}{C:Addr}{o o':Obj}(x:HOk P w H B)(hn:H C=none):HOk P w H (B.update C fun _=>o'):=fun a u e=>by
 refine(x a u e).stay (fun b q hb z=>?_) (fun _ z=>z) fun _ _ z=>z
 rw[AL _ _ fun z2=>?_]
 ·exact z
 ·rcases hb with rfl |hb
  ·rw[←z2,hn]at e;cases e
  ·rw[←z2,hn]at hb;cases hb
def EG(M:Model)(A:Around)(E:Value→Shared→Prop)(cenv:Env)(r:Result)(s':Shared):Prop:=match r with
 |.ok _=>False
 |.error x=>∃m,s'.heap.Ns cenv.locals m∧∀h' m',h'.Ns cenv.locals m'→Heap.SameBut cenv.locals s'.heap h'→wpAny M A (PySem.passOn "comprehension.variables-let-go" x cenv:Sem Value) (fun _ _=>False) E {s' with heap:=h'}
section
variable {M:Model} {A:Around} {E:Value→Shared→Prop} {s:Shared} {env:Env}
theorem tT{e:Expr}{scope:Scope}{pos:Pos}{newAcc first:Sem Value}{g:Comprehension}{gs:List Comprehension}{cl:List (Str×Addr)}{use:Option (Value→Sem Unit)}{Q:Value→Shared→Prop}
  (hcl:clausesOf e=g::gs) (hs:∀x,foldedSetIterable g.iter env x=pure x) (hclos:closureFor scope env=pure cl) (hk:scope.kind=.function) (hnm:∀x∈scope.names,x.2=.local→scope.names.lookup x.1=some .local)
  (h:wpAny M A first (fun x s₁=>wpAny M A (pyIter x) (fun it s₂=>wpAny M A newAcc (fun acc s₃=>wpAny M A (newFunctionEnv scope env.globals cl [] env.qual none .none (some env)) (fun cenv s₄=>
    codeAny M A (.compStart e 0 it acc {cenv with scope:=relabel scope env}) (EG M A E {cenv with scope:=relabel scope env}) s₄) E s₃) E s₂) E s₁) E s):
  wpAny M A (comprehension e scope env pos newAcc false first use) Q E s:=by
 unfold comprehension
 rw[hclos,hcl]
 refine wpAny_bind (eG h fun x s₁ h₁=>wpAny_bind (wpAny_standAt (wpAny_bind (wpAny_of_eq (hs x) (wpAny_bind (wpAny_holding (eG h₁ fun it s₂ h₂=>wpAny_standIf (wpAny_bind (eG h₂ fun acc s₃ h₃=>
  wpAny_bind (wpAny_pure (wpAny_bind (eG h₃ fun cenv s₄ h₄=>?_))))))))))))
 dsimp only
 refine wpAny_holding (wpAny_bind (wpAny_attempt (wpAny_holding (wpAny_run (codeAny_mono h₄ fun r s' hr=>?_)))))
 cases r with
 |ok f=>exact False.elim hr
 |error x=>
  obtain⟨m,hn,hr⟩:=hr
  refine wpAny_bind (wpAny_holding (wpAny_comp_letGo (cenv:={cenv with scope:=relabel scope env}) hk _ s' m (fun y hy hl=>?_) hn fun h' m' hn' hs'=>wpAny_mono (hr h' m' hn' hs') (fun _ _ z=>z.elim) fun _ _ z=>z))
  exact lookup_relabel_local (hnm y (List.mem_filter.mp (List.mem_reverse.mp hy)).1 hl)
end
section
variable {prog:Program} {w:World} {A:Around} {R:Result→Shared→Prop} {s:Shared}
theorem zV{elt target iter:Expr}{scope:Scope}{pos:Pos}{it acc:Value}{env:Env}(I:Nat→Shared→Prop)
  (turn:∀n s,I n s→wpAny (model prog w) A (pyNext it) (fun r s₁=>match r with
   |none=>R (.ok .next) s₁
   |some v=>wpAny (model prog w) A (letOwnedTupleGo target it v) (fun _ s₁'=>wpAny (model prog w) A (assign target env v) (fun _ s₂=>
      wpAny (model prog w) A (eval elt env) (fun x s₄=>wpAny (model prog w) A (call (.builtin "list.append") [acc,x]) (fun _ s₅=>∃m,m < n∧I m s₅) (fun _ _=>False) s₄) (notedBy (model prog w) A env fun x s'=>R (.error x) s') s₂)
     (fun _ _=>False) s₁') (fun _ _=>False) s₁) (fun _ _=>False) s)
  (n:Nat) (h:I n s):codeAny (model prog w) A (.compLoop (.ListComp elt [⟨target,iter,[],0⟩] scope pos) 0 it acc env) R s:=by
 refine codeAny_loop rfl I (fun n s hI=>?_) n h
 show wpAny _ A ((compTurn (.ListComp elt [⟨target,iter,[],0⟩] scope pos) 0 it acc env).onRaise (fun x=>do noteFrame x env;theTreesLotGoes x)) _ _ s
 refine wpAny_noted ?_
 rw[compTurn_list]
 refine wpAny_bind (wpAny_standAt (wpAny_bind (wpAny_mono (turn n s hI) (fun r s₁ h₁=>?_) fun _ _ z=>z.elim)))
 cases r with
 |none=>exact wpAny_pure h₁
 |some v=>
  refine wpAny_bind (wpAny_mono h₁ (fun _ s₁' h₁'=>wpAny_bind (wpAny_mono h₁' (fun _ s₂ h₂=>wpAny_bind (wpAny_tests_nil ?_)) fun _ _ z=>z.elim)) fun _ _ z=>z.elim)
  exact wpAny_bind (wpAny_bind (eG h₂ fun x s₄ h₄=>wpAny_bind (wpAny_mono h₄ (fun _ s₅ h₅=>wpAny_pure (wpAny_pure ⟨rfl,h₅⟩)) fun _ _ z=>z.elim)))
end
def hO(tg:gK)(el:bH)(re:iD):List PyData→List Sl→Option Str
 |[],_=>none
 |d::ds,E=>(tg d E).bind fun E1=>match re E1 with
  |some x=>some x.1
  |none=>(el E1).bind fun c=>(frz c.2 c.1).bind fun e=>hO tg el re ds e.2
def tU(js:List (Option Nat))(it:lq)(tg:gK)(el:bH)(re:iD):iD:=fun E=>(it E).bind fun a=>if a.1.length≤1000000 then (hO tg el re a.1 (iS js a.2)).map fun n=>(n,a.2)else none
def FY(X Xc:Cx)(n:Str)(H2:Hp)(e:Value)(s':Shared):Prop:=∃pp σ' C H' ea H s a0 Bb,e=.ref ea∧nsIn X.K mainGlobals n=some (some (.ref C))∧Same H2 H'∧Inv Xc pp σ' H s∧s'.os=s.os∧AllBare s'.gens∧FlyC Bb X.stack ea (.ref C) a0 s'.heap∧HOk X.prog X.w H' Bb∧UnB (jS X.stack) H H' s.heap Bb s'.heap
section
variable {X:Cx} {elt target iter:Expr} {scope sc:Scope} {cl:List (Str×Addr)} {N:List Str} {pos:Pos} {js:List (Option Nat)} {m m3:Bool} {it:lq} {tg:gK} {el:bH} {re:iD}
theorem zW{use:Option (Value→Sem Unit)}{Qv:Value→Shared→Prop}(K:CompOk X scope sc cl N js)(hst:X.stack=X.env::X.outer)(hfr:X.env.frame=some X.env.locals)(hc:X.calm=true)(hi:IX X.nox target iter m it)
  (hgg:∀C s₀ H₀ fp,GX (X.comp sc cl N C s₀ H₀ fp) target tg) (hee:∀C s₀ H₀ fp,EX (X.comp sc cl N C s₀ H₀ fp) elt m3 el) (hre:∀C s₀ H₀ fp W,RE ((X.comp sc cl N C s₀ H₀ fp).wish W) false elt re)
  (hs:∀x,foldedSetIterable iter X.env x=pure x) {pins:List (Addr×Obj)} {s:Shared} {σ:L2.St} {H B:Hp} {E E':List Sl} {n:Str} (I:Inv X pins σ H s) (fr:Frm X.K B σ H E [] []) (er:tU js it tg el re E=some (n,E'))
  (k:∀C H',nsIn X.K mainGlobals n=some (some (.ref C))→Frm X.K B σ H' E' [] []→tD X C pins σ H'):
  wpAny (model X.prog X.w) X.A (comprehension (.ListComp elt [⟨target,iter,[],0⟩] scope pos) scope X.env (firstIterPos [⟨target,iter,[],0⟩] pos) (newList []) false (firstIter [⟨target,iter,[],0⟩] X.env) use) Qv X.xe s:=by
 obtain⟨⟨ds,E1⟩,e1,er⟩:=Za.mp er
 simp only at er
 split at er
 case isFalse=>cases er
 rename_i hlen
 obtain⟨n',e2,er⟩:=Zad.mp er
 cases er
 have h0:=hi pins s σ H (fun J H2=>∃B',Same B B'∧Frm X.K B' σ H2 E' [] []∧uQ X.K B' J ds) (I.wish _) ⟨B,E,[],[],ds,E',fr,fun _=>Calm.nil rfl,e1,fun B' J H' a b c=>⟨B',a,b,c⟩⟩
 refine tT (use:=use) rfl hs K.clos K.kind K.names (wpAny_mono h0 (fun v s1 h1=>wpAny_mono h1 (fun itv s2 h2=>?_) fun _ _ z=>z.elim) fun _ _ z=>z.elim)
 obtain⟨it,fp,tn,J,H2,e,I2,T,st2,f2,B',hB,⟨F1,A1,fr1⟩,ok⟩:=h2
 subst e
 have I2:=I2.unwish
 refine wpAny_newObj_type (wpAny_newFunctionEnv K.nocell (by intro y hy;simp at hy) (fun h₁ hns₁ hsb₁=>?_) K.kind)
 dsimp only at hns₁ hsb₁ ⊢
 have I3:Inv X pins σ (upd H2 s2.heap.objs.size (.lst [])) {s2 with heap:=s2.heap.push {cls:=.type "list",dict:=none,data:=.seq ([]:List Value).toArray}}:=I2.lnew (t':=s2.toks) (its:=[]) .nil (Nat.zero_le _)
 have hD0:H2 s2.heap.objs.size=none:=I2.hok.fresh (fQ _)
 generalize hP:s2.heap.push {cls:=.type "list",dict:=none,data:=.seq ([]:List Value).toArray}=h3 at hns₁ hsb₁ I3 ⊢
 generalize hD:s2.heap.objs.size=D at hD0 I3 ⊢
 have hsz3:h3.objs.size=D+1:=by rw[←hP,Heap.size_push,hD]
 have old3:∀b o,s2.heap.get? b=some o→h3.get? b=some o:=fun b o e=>by rw[←hP];exact gw _ e
 have old:∀b o,h3.get? b=some o→h₁.get? b=some o:=fun b o e=>hsb₁.extBut b o (gI (gE e)) (gw _ e)
 have fpD:∀b∈fp,b < D:=fun b hb=>by
  obtain⟨o,e,_⟩:=T.obj _ _ st2 b hb
  rw[←hD];exact gE e
 have frD:∀b∈fp,(upd H2 D (.lst [])) b=none:=fun b hb=>by rw[aB (gI (fpD b hb))];exact(f2 b hb).1
 have f3:∀b∈fp,pE X pins (upd H2 D (.lst [])) b:=fun b hb=>⟨frD b hb,(f2 b hb).2⟩
 have Hfresh:∀a,h3.objs.size≤a→(upd H2 D (.lst [])) a=none:=fun a ha=>I3.hok.fresh ha
 have cellC:∀x c,X.env.cells.lookup x=some c→c < h3.objs.size:=fun x c e=>by
  obtain⟨v,q⟩:=I3.cell x c e
  exact q.lt
 have YOk:(X.comp sc cl N h3.objs.size {s2 with heap:=h3} (upd H2 D (.lst [])) fp).Ok:=by
  refine⟨I3.ok.mod,?_,I3.ok.glob,I3.ok.blt,fQ _,fun x y c e1 e2=>I3.ok.inj x y c (K.same x c e1) (K.same y c e2),fun x hx=>K.has x hx,fun x c hf _=>absurd hf (by intro z;cases z),I3.ok.hd,I3.ok.frames,.inl rfl,fun b hb=>⟨?_,fun x c e=>(f2 b hb).2.2.2.2.1 x c (K.same x c e)⟩,
   I3.bs,kb I3.ok.bsz I3.sz,fun b o e hb=>?_,fun b hb hm=>?_,I3.stack,I3.stkFree,I3.tab⟩
  ·rw[←K.rel];exact K.kind
  ·exact gI (by rw[hsz3];exact uB (fpD b hb))
  ·rcases(f2 b hb).2.2.2.1 with z |z
   ·exact I3.ok.noex b o e z
   ·exact absurd (kj (gE (I3.ok.bs b o e).1) z) (Nat.lt_irrefl _)
  ·rcases Zal.mp (I3.stkSub b hm)with z |z
   ·exact(f2 b hb).2.1 z
   ·exact(f2 b hb).2.2.1 z
 have IY:Inv (X.comp sc cl N h3.objs.size {s2 with heap:=h3} (upd H2 D (.lst [])) fp) [] (slots js σ) (upd H2 D (.lst [])) {s2 with heap:=h₁,toks:=s2.toks+([]:List (Str×Value)).length}:=by
  refine⟨YOk,rfl,I3.bare,Un.kept old,⟨_,hns₁,fun i x v e1 e2 e3=>?_⟩,fun x c e=>?_,Hfresh _ (fQ _),fun x c e=>I3.freeC x c (K.same x c e),fun p hp=>absurd (show p∈([]:List (Addr×Obj))from hp) (by simp),I3.hok.kept old,?_⟩
  ·unfold slots at e2
   rw[List.getElem?_map]at e2
   cases ej:js[i]? with
   |none=>rw[ej]at e2;cases e2
   |some jo=>
    rw[ej]at e2
    cases jo with
    |none=>cases e2
    |some j=>
     obtain⟨y,n1,n2,k1,k2⟩:=K.from_ i j ej
     have exy:y=x:=Option.some.inj (n1.symm.trans e1)
     subst exy
     have e2':(σ[j]?).join=some v:=Option.some.inj e2
     have e4:σ[j]? =some (some v):=by
      cases es:σ[j]? with
      |none=>rw[es]at e2';cases e2'
      |some w=>rw[es]at e2';exact congrArg some e2'
     obtain⟨m,_,hl⟩:=I3.loc
     obtain⟨u,ru,lk⟩:=hl j y v n2 e4 (by
      rcases k2 with z |z
      ·exact .inr (.inl z)
      ·exact .inr (.inr z))
     refine⟨u,ru,.inr ⟨k1,?_⟩⟩
     obtain⟨c,hcl⟩:=K.has y k1
     refine⟨c,hcl,?_⟩
     rcases lk with⟨z,_⟩ |⟨_,c',e5,ic⟩
     ·rcases k2 with q |q
      ·rw[q]at z;cases z
      ·rw[q]at z;cases z
     ·have:c'=c:=Option.some.inj (e5.symm.trans (K.same y c hcl))
      subst this
      obtain⟨o,ho,hd⟩:=ic
      exact⟨o,old _ _ ho,hd⟩
  ·obtain⟨v,o,ho,hd⟩:=I3.cell x c (K.same x c e)
   exact⟨v,o,old _ _ ho,hd⟩
  ·unfold slots;rw[fH];exact K.len
 generalize hC:h3.objs.size=C at hns₁ hsb₁ Hfresh cellC YOk IY ⊢
 have hCz:C=h3.objs.size:=hC.symm
 have B2:Same B' H2:=fr1.bf.trans fr1.fh
 have fr0:=(sS fr1 js).newl (ds:=[]) .nil hD0
 have nCs:C∉jS X.stack:=fun z=>by
  rcases Zal.mp (I3.stkSub C z)with q |q
  ·exact absurd I3.lt (by rw[q]at hCz;rw[hCz];exact Nat.lt_irrefl _)
  ·exact I3.nofs (Nat.le_of_eq hCz.symm) q
 -- how a refusal leaves the block
 have leave:∀e s',FY X (X.comp sc cl N C {s2 with heap:=h3} (upd H2 D (.lst [])) fp) n H2 e s'→notedBy (model X.prog X.w) X.A (X.comp sc cl N C {s2 with heap:=h3} (upd H2 D (.lst [])) fp).env (fun x s'=>EG (model X.prog X.w) X.A X.xe (X.comp sc cl N C {s2 with heap:=h3} (upd H2 D (.lst [])) fp).env (.error x) s') e s':=by
  rintro e s' ⟨pp,σ',Cc,H',ea,H5,s5,a0,Bb,rfl,ns,g2,I5,os,bare,fl,hok,u⟩
  unfold notedBy
  rw[Cn (a:=(X.comp sc cl N C {s2 with heap:=h3} (upd H2 D (.lst [])) fp).env) (b:=X.env) rfl]
  refine mw (outer:=X.outer) (by rw[I3.ok.frames,hst]) hfr (hst▸fl) fun h6 x1 x2=>?_
  have u6:=u.on fl.2.2.1 x2
  have I5f:H5 C=none:=I5.free
  obtain⟨mC,oC,es,ep,hoC,hdC,hrC⟩:=(show ∃m,s5.heap.Ns C m from let ⟨m,a,_⟩:=I5.loc;⟨m,a⟩)
  have bC:=u.keep C oC hoC I5f nCs
  refine⟨mC,⟨oC,es,ep,x1.1 C oC bC,hdC,hrC⟩,fun h7 m7 hn7 hs7=>?_⟩
  obtain⟨o7,es7,ep7,ho7,hd7,hr7⟩:=hn7
  have nf:o7.isFreed=false:=(Heap.get?_some_iff.mp ho7).2
  have hh7:=HeldC.swap (hst▸x1) hs7 bC ho7 nf
  refine xN (base:=Bb.update C fun _=>o7) (l:=X.stack) hfr hh7 fun h8 y1 y2=>?_
  have IX:Inv X pins σ H5 s5:=I3.call' (ch:=fp) I5.os I5.base I5.hok I5.bare fun b hb=>⟨(f3 b hb).2.2.2.1,(f3 b hb).2.1,(f3 b hb).2.2.2.2.1,(f3 b hb).2.2.2.2.2⟩
  have IX':Inv X pins σ H5 {s5 with heap:=s5.heap.update C fun _=>o7,toks:=s5.toks}:=IX.turned (it:=C) (fun b o hb e=>by rw[AL _ _ (Ne.symm hb)];exact e) I5f (by rw[hCz];exact Ne.symm (gI I3.lt)) (.inr (by rw[hCz];exact I3.sz)) (fun x c e=>gI (hCz▸cellC x c e)) (fun p hp=>by rw[hCz];exact gI (gE (I3.pin p hp).1))
  refine k Cc H' ns ⟨_,_,(fr1.base hB).grow g2⟩ H5 _ ea _ a0 _ IX' os bare y1 (HOk.swap (o:=oC) hok (u.free C oC hoC I5f)) ?_
  exact(UnB.swap u6 nCs I5f hoC bC nf fun b hb=>hs7.2 b hb).on hh7.2.2.1 y2
 have loop:∀s₃:Shared,s₃={s2 with heap:=h₁,toks:=s2.toks+([]:List (Str×Value)).length}→
   codeAny (model X.prog X.w) X.A (.compLoop (.ListComp elt [⟨target,iter,[],0⟩] scope pos) 0 (.ref it) (.ref D) (X.comp sc cl N C {s2 with heap:=h3} (upd H2 D (.lst [])) fp).env)
    (EG (model X.prog X.w) X.A X.xe (X.comp sc cl N C {s2 with heap:=h3} (upd H2 D (.lst [])) fp).env) s₃:=by
  rintro s₃ rfl
  refine zV (fun nn s'=>∃i σ' H',Inv (X.comp sc cl N C {s2 with heap:=h3} (upd H2 D (.lst [])) fp) [] σ' H' s'∧tn i s'.heap∧(∀b∈fp,H' b=none)∧nn=ds.length - i∧i≤ds.length∧∃Ei acc,acc.length=i∧hO tg el re (ds.drop i) Ei=some n∧Frm X.K H2 σ' H' Ei [.ref D] [.ow acc]) ?_ ds.length
   ⟨0,_,_,IY,T.keep _ _ _ st2 (fun b hb o e=>old b o (old3 b o e)),frD,rfl,Nat.zero_le _,_,[],rfl,by simpa using e2,⟨_,_,fr0⟩⟩
  rintro nn s4 ⟨i,σ4,H4,I4,st4,fr4,rfl,hil,Ei,acc,ha,ei,F',A',fri⟩
  have ff:∀{H':Hp},(∀b∈fp,H' b=none)→∀b∈fp,pE (X.comp sc cl N C {s2 with heap:=h3} (upd H2 D (.lst [])) fp) [] H' b:=fun hn b hb=>
   ⟨hn b hb,(YOk.exf b hb).1,YOk.exfs b hb,.inl hb,(YOk.exf b hb).2,fun p hp=>absurd (show p∈([]:List (Addr×Obj))from hp) (by simp)⟩
  have hg:=hgg C {s2 with heap:=h3} (upd H2 D (.lst [])) fp
  have he:=hee C {s2 with heap:=h3} (upd H2 D (.lst [])) fp
  obtain⟨go,stop⟩:=ok i B2 fri
  by_cases hlt:i < ds.length
  case neg=>
   have e0:i=ds.length:=by omega
   rw[e0,List.drop_length]at ei
   cases ei
  obtain⟨d,ed⟩:∃d,ds[i]? =some d:=⟨ds[i],uv hlt⟩
  obtain⟨g1,yl⟩:=go d ed
  have edr:ds.drop i=d::ds.drop (i+1):=by
   rw[List.drop_eq_getElem_cons hlt]
   congr 1
   exact Option.some.inj ((uv hlt).symm.trans ed)
  rw[edr]at ei
  obtain⟨E3,e3,ei⟩:=Za.mp ei
  refine eG (T.item (X.comp sc cl N C {s2 with heap:=h3} (upd H2 D (.lst [])) fp) rfl rfl rfl hc i [] s4 σ4 H4 _ I4 (ff fr4) st4 g1) fun r s5 ⟨u,hr,h5⟩=>?_
  subst hr
  refine eG h5 fun _ s6 ⟨x,H6,I6,r6,y6,st6,fr6⟩=>?_
  have I6':=I6.pinned (ff fr6) (T.obj _ _ st6)
  refine eG (hg _ s6 σ4 H6 x u (fun σ7 H7=>Frm X.K H2 σ7 H7 E3 [.ref D] [.ow acc]) I6' r6 ⟨H2,Ei,[.ref D],[.ow acc],d,E3,yl x H6 y6,(fun s hs=>by rw[Zab.mp hs];rfl),e3,fun σ3 H3 f3=>f3⟩) fun _ s7 ⟨σ7,H7,I7,F7,A7,fr7⟩=>?_
  split at ei
  ·rename_i x7 ex7
   cases ei
   obtain⟨A8,fr8⟩:=fr7.pop
   refine wpAny_mono (hre C {s2 with heap:=h3} (upd H2 D (.lst [])) fp (FY X (X.comp sc cl N C {s2 with heap:=h3} (upd H2 D (.lst [])) fp) x7.1 H2) _ s7 σ7 H7 H2 E3 x7.1 x7.2 (I7.wish _) ⟨F7,A8,fr8⟩ ex7 fun pp hp σ' Cc H' ns ⟨F9,A9,fr9⟩=>⟨?_,fun z=>nomatch z⟩) (fun _ _ z=>z.elim) fun e s' z=>leave e s' z
   exact fun H5 s5 ea s' a0 Bb I5 os bare fl hok u=>⟨pp,σ',Cc,H',ea,H5,s5,a0,Bb,rfl,ns,fr9.bf.trans fr9.fh,I5.unwish,os,bare,fl,hok,u⟩
  ·have back:∀{σ7:L2.St} {H7:Hp} {s7:Shared},Inv (X.comp sc cl N C {s2 with heap:=h3} (upd H2 D (.lst [])) fp) ([]++ma fp s6.heap) σ7 H7 s7→
     Inv (X.comp sc cl N C {s2 with heap:=h3} (upd H2 D (.lst [])) fp) [] σ7 H7 s7∧tn (i+1) s7.heap∧∀b∈fp,H7 b=none:=fun {σ7 H7 s7} I7=>
    ⟨I7.unpinned,T.keep _ _ _ st6 fun b hb o e=>(I7.pin (b,o) (pD _ (pD _ (fT hb e)))).1,fun b hb=>by
     obtain⟨o,e,d⟩:=T.obj _ _ st6 b hb
     exact(I7.pin (b,o) (pD _ (pD _ (fT hb e)))).2.1⟩
   obtain⟨⟨s5',E5⟩,e5,ei⟩:=Za.mp ei
   obtain⟨⟨d6,E6⟩,e6,ei⟩:=Za.mp ei
   have clm:Calm [Sl.ow acc]:=Calm.cons (fun s hs=>absurd hs (by simp)) rfl
   refine wpAny_mono (he _ s7 σ7 H7 (fun y H9=>Frm X.K H2 σ7 H9 E5 (y::[.ref D]) (s5'::[.ow acc])) I7 ⟨H2,E3,[.ref D],[.ow acc],s5',E5,⟨F7,A7,fr7⟩,fun _=>clm,e5,fun v H' f=>f⟩) (fun yv s9 ⟨y,H9,I9,r9,F9,A9,fr9⟩=>?_) fun _ _ z=>z.elim
   obtain⟨FA,AA,frA⟩:=fr9.frz0 e6
   obtain⟨v',C1,ev,rfl,w,ew,ry⟩:=frA.ext (k:=0) rfl
   cases ev;cases ew
   obtain⟨AB,frB⟩:=frA.pop
   obtain⟨bf,fh,tf,sl,nd,frn,len,pl⟩:=frB
   generalize hT:List.map some [V.ref D]++σ7=TT at sl
   generalize hS:[Sl.ow acc]++E6=SS at sl
   cases sl with
   |nil=>cases hS
   |cons q0 r0=>
    injection hT with h1 hT
    injection hS with h2 hS
    subst h1 h2 hT hS
    obtain⟨l',us,el',rfl,hl5,ru⟩:=q0
    cases el'
    have lu:=ru.len
    refine eG (mf _ s9 σ7 H9 (.ref D) [y] (.ref D) [yv] (fun v H'=>v=.non∧H'=upd H9 D (.lst (us++[y]))) I9 rfl (.cons r9 .nil) ⟨D,us,y,rfl,rfl,hl5,small (by omega),rfl,rfl⟩) fun _ sA ⟨_,HA,IA,_,_,eA⟩=>?_
    subst eA
    obtain⟨J1,J2,J3⟩:=back IA
    refine⟨ds.length - (i+1),by omega,i+1,σ7,_,J1,J2,J3,rfl,hlt,E6,acc++[d6],by simp[ha],ei,FA,_,bf,fun b o qb=>?_,?_,.cons (A:=[D]) ⟨D,us++[y],rfl,rfl,upd_same,ru.snoc ry⟩ (r0.mono fun o s C hs hC qq=>qq.stay (Same.refl _) (fun b hb=>aB fun z=>?_) fun z=>?_),nd,frn,rfl,pl⟩
    ·have lF:FA D=none:=frn D (by simp)
     rw[aB (fun z=>by rw[z,lF]at qb;cases qb)]
     exact fh _ _ qb
    ·rw[nZ hl5];exact tf
    ·have:=hC b hb
     rw[z]at this
     exact(List.nodup_cons.mp nd).1 this
    ·have:=pl s hs
     cases s <;> simp[Sl.isAl,Sl.isBr]at this z
 rw[K.rel]
 exact codeAny_compStart_list (loop _ rfl) (T.self _ 0 _ _ _ (T.keep _ _ _ st2 (fun b hb o e=>old b o (old3 b o e))) (loop _ rfl))
theorem Co(K:CompOk X scope sc cl N js)(hst:X.stack=X.env::X.outer)(hfr:X.env.frame=some X.env.locals)(hc:X.calm=true)(hi:IX X.nox target iter m it)(hgg:∀C s₀ H₀ fp,GX (X.comp sc cl N C s₀ H₀ fp) target tg)(hee:∀C s₀ H₀ fp,EX (X.comp sc cl N C s₀ H₀ fp) elt m3 el)(hre:∀C s₀ H₀ fp W,RE ((X.comp sc cl N C s₀ H₀ fp).wish W) false elt re)
  (hs:∀x,foldedSetIterable iter X.env x=pure x:=by intro _;rfl):RE X true (.ListComp elt [⟨target,iter,[],0⟩] scope pos) (tU js it tg el re):=fun pins s σ H B E n E' I fr er k=>by
 rw[eval_ListComp]
 exact zW (use:=none) K hst hfr hc hi hgg hee hre hs I fr er fun C H' ns f=>(k pins (fun _=>rfl) σ C H' ns f).2 rfl
theorem Cp{ifs:List Expr}{al:Bool}(K:CompOk X scope sc cl N js)(h:RE X al iter re)(hs:∀x,foldedSetIterable iter X.env x=pure x:=by intro _;rfl):RE X al (.ListComp elt [⟨target,iter,ifs,0⟩] scope pos) re:=fun pins s σ H B E n E' I fr er k=>by
 rw[eval_ListComp]
 exact tT (use:=none) rfl hs K.clos K.kind K.names (wpAny_mono (h pins s σ H B E n E' I fr er k) (fun _ _ z=>z.elim) fun _ _ z=>z)
end
end PL
namespace NH
section
variable {α:Type} [DecidableEq α]
def Rot(a b:List (α×Int)):Prop:=∃u v,a=u++v∧b=v++u
theorem Rot.refl(a:List (α×Int)):Rot a a:=⟨[],a,rfl,by simp⟩
theorem Rot.symm{a b:List (α×Int)}(h:Rot a b):Rot b a:=let ⟨u,v,e,f⟩:=h;⟨v,u,f,e⟩
theorem Rot.trans{a b c:List (α×Int)}(h:Rot a b)(k:Rot b c):Rot a c:=by
 obtain⟨u,v,rfl,e⟩:=h
 obtain⟨x,y,e2,rfl⟩:=k
 rw[e]at e2
 rcases List.append_eq_append_iff.mp e2 with⟨w,e3,e4⟩ |⟨w,e3,e4⟩
 ·subst e3 e4
  exact⟨w,y++v,by simp,by simp⟩
 ·subst e3 e4
  exact⟨u++x,w,by simp,by simp⟩
theorem Rot.len{a b:List (α×Int)}(h:Rot a b):a.length=b.length:=by
 obtain⟨u,v,rfl,rfl⟩:=h
 simp[Nat.add_comm]
theorem rT{w:List (α×Int)}(h:Red w):short w=w:=by rw[kl,mU h]
end
end NH
namespace NH
variable {α:Type} [DecidableEq α]
end NH
namespace NH
section
variable {α:Type} [DecidableEq α]
def fG(P:α→Bool)(c:List (α×Int)):List (α×Int):=c.filter fun p=>P p.1
theorem zX(P:α→Bool)(r:List (α×Int))(h:Red r)(p:α×Int):short (fG P (stp r p))=if P p.1 then stp (short (fG P r)) p else short (fG P r):=by
 cases r with
 |nil=>
  by_cases k:p.2=0
  ·obtain⟨n,a⟩:=p
   simp only at k
   subst k
   simp[stp,fG,short,stk]
  ·by_cases hp:P p.1=true <;> simp[stp,fG,short,stk,k,hp]
 |cons x r=>
  rw[iF]
  by_cases e:x.1=p.1
  ·have hx:fG P (x::r)=if P p.1 then x::fG P r else fG P r:=by
    unfold fG
    rw[List.filter_cons,e]
   by_cases hp:P p.1=true
   ·rw[hx,if_pos hp,if_pos hp,fU]
    have s:=Bu (iG (fG P r)) p.1 x.2 p.2
    have ex:(p.1,x.2)=x:=by rw[←e]
    rw[ex]at s
    rw[s]
    unfold yg
    rw[if_pos e]
    by_cases z:x.2+p.2=0
    ·rw[if_pos z,z,sH (iG _)]
     rfl
    ·rw[if_neg z]
     show short (fG P ((p.1,x.2+p.2)::r))=_
     unfold fG
     rw[List.filter_cons,if_pos hp,fU]
   ·rw[hx,if_neg hp,if_neg hp]
    unfold yg
    rw[if_pos e]
    by_cases z:x.2+p.2=0
    ·rw[if_pos z];rfl
    ·rw[if_neg z]
     show short (fG P ((p.1,x.2+p.2)::r))=_
     unfold fG
     rw[List.filter_cons,if_neg hp]
  ·unfold yg
   rw[if_neg e]
   by_cases k:p.2=0
   ·rw[if_pos k]
    by_cases hp:P p.1=true
    ·rw[if_pos hp]
     obtain⟨n,a⟩:=p
     simp only at k
     subst k
     rw[sH (iG _)]
     rfl
    ·rw[if_neg hp];rfl
   ·rw[if_neg k]
    show short (fG P (p::x::r))=_
    by_cases hp:P p.1=true
    ·rw[if_pos hp,←fU]
     unfold fG
     rw[List.filter_cons,if_pos hp]
    ·rw[if_neg hp]
     unfold fG
     rw[List.filter_cons,if_neg hp]
theorem kR(P:α→Bool):∀c:List (α×Int),short (fG P (short c))=short (fG P c)
 |[]=>rfl
 |p::c=>by
  rw[fU,zX P _ (iG c),kR P c]
  by_cases hp:P p.1=true
  ·rw[if_pos hp,←fU]
   unfold fG
   rw[List.filter_cons,if_pos hp]
  ·rw[if_neg hp]
   unfold fG
   rw[List.filter_cons,if_neg hp]
theorem zY(P:α→Bool){c d:List (α×Int)}(h:short c=short d):short (fG P c)=short (fG P d):=by rw[←kR P c,h,kR]
theorem xO(P Q:α→Bool)(c:List (α×Int)):fG P (fG Q c)=fG (fun n=>P n&&Q n) c:=by
 unfold fG
 rw[List.filter_filter]
theorem vk(P Q:α→Bool){c:List (α×Int)}(h:short (fG Q c)=[]):short (fG (fun n=>P n&&Q n) c)=[]:=by
 rw[←xO,zY P (h.trans (by rfl:([]:List (α×Int))=short []))]
 rfl
end
end NH
namespace NH
variable {α:Type} [DecidableEq α]
end NH
namespace Nh
open PySem L2 PL
def CordOk(c:List Pc):Prop:=∀p∈c,p.1 < 128∧p.2.natAbs < 2 ^ 100
theorem CordOk.append{c d:List Pc}(h:CordOk c)(h':CordOk d):CordOk (c++d):=fun p hp=>(Zan.mp hp).elim (h p) (h' p)
end Nh
namespace NH
def dR(w:List Nat):Nat→Nat
 | 0=>0
 |n+1=>dR w n+if 97+n∈w then 2 ^ n else 0
theorem qr(w:List Nat):∀n,dR w n < 2 ^ n
 | 0=>by simp[dR]
 |n+1=>by
  have:=qr w n
  rw[dR,Nat.pow_succ]
  split <;> omega
theorem fY(w:List Nat):∀n i,(dR w n).testBit i=(decide (i < n)&&decide (97+i∈w))
 | 0,i=>by simp[dR]
 |n+1,i=>by
  have ih:=fY w n i
  have lt:=qr w n
  rw[dR]
  by_cases h:97+n∈w
  ·rw[if_pos h,Nat.add_comm]
   by_cases e:i=n
   ·subst e
    rw[Nat.testBit_two_pow_add_eq,ih]
    simp[h]
   ·by_cases l:i < n
    ·rw[Nat.testBit_two_pow_add_gt l,ih]
     simp[l,show i < n+1 by omega]
    ·have big:2 ^ n+dR w n < 2 ^ i:=by
      have:2 ^ (n+1)≤2 ^ i:=Nat.pow_le_pow_right (by decide) (by omega)
      rw[Nat.pow_succ]at this
      omega
     rw[Nat.testBit_lt_two_pow big]
     simp[show ¬i < n+1 by omega]
  ·rw[if_neg h,Nat.add_zero,ih]
   by_cases e:i=n
   ·subst e;simp[h]
   ·by_cases l:i < n
    ·simp[l,show i < n+1 by omega]
    ·simp[l,show ¬i < n+1 by omega]
def bY(w:List Nat):Nat:=dR w 26
def oN(w:List Nat):Prop:=∀a∈w,97≤a∧a < 97+26
theorem xP{a b:List Nat}(ha:oN a):bY a &&& bY b=bY a↔∀x∈a,x∈b:=by
 unfold bY
 constructor
 ·intro h x hx
  have l:=ha x hx
  have:=congrArg (fun n=>n.testBit (x - 97)) h
  simp only[Nat.testBit_and,fY,show 97+(x - 97)=x by omega,show x - 97 < 26 by omega,hx]at this
  simpa using this
 ·intro h
  refine Nat.eq_of_testBit_eq fun i=>?_
  rw[Nat.testBit_and,fY,fY]
  by_cases m:97+i∈a
  ·simp[m,h _ m]
  ·simp[m]
theorem xQ{a b:List Nat}(ha:oN a):bY a &&& bY b=0↔∀x∈a,x∉b:=by
 unfold bY
 constructor
 ·intro h x hx hb
  have l:=ha x hx
  have:=congrArg (fun n=>n.testBit (x - 97)) h
  simp only[Nat.testBit_and,fY,show 97+(x - 97)=x by omega,show x - 97 < 26 by omega,hx,hb]at this
  simp at this
 ·intro h
  refine Nat.eq_of_testBit_eq fun i=>?_
  rw[Nat.testBit_and,fY,fY,Nat.zero_testBit]
  by_cases m:97+i∈a
  ·simp[m,h _ m]
  ·simp[m]
end NH
namespace NhFam
abbrev Tx:=List Nat
def Srt(w:Tx):Prop:=w.Pairwise (· < ·)
def le(v w:Tx):Prop:=∀x∈v,x∈w
instance (v w:Tx):Decidable (le v w):=inferInstanceAs (Decidable (∀x∈v,x∈w))
theorem le.refl(v:Tx):le v v:=fun _ h=>h
theorem le.trans{u v w:Tx}(a:le u v)(b:le v w):le u w:=fun x h=>b x (a x h)
def Sub(U w:Tx):Prop:=Srt w∧le w U
theorem Srt.nodup{w:Tx}(h:Srt w):w.Nodup:=h.imp fun h=>gI h
theorem dZ:∀{w v:Tx},Srt v→Srt w→le v w→v.Sublist w
 |[],v,_,_,h=>by
  cases v with
  |nil=>exact .slnil
  |cons x v=>cases h x (io ..)
 |y::w,v,hv,hw,h=>by
  cases v with
  |nil=>exact List.nil_sublist _
  |cons x v=>
   have hw':=List.pairwise_cons.mp hw
   have hv':=List.pairwise_cons.mp hv
   by_cases e:x=y
   ·subst e
    refine(dZ hv'.2 hw'.2 fun z hz=>?_).cons_cons _
    rcases Zal.mp (h z (il _ hz))with q |q
    ·have:=hv'.1 z hz;omega
    ·exact q
   ·have hx:x∈w:=(Zal.mp (h x (io ..))).resolve_left e
    have lt:=hw'.1 x hx
    refine(dZ hv hw'.2 fun z hz=>?_).cons _
    rcases Zal.mp (h z hz)with q |q
    ·subst q
     rcases Zal.mp hz with q |q
     ·omega
     ·have:=hv'.1 z q;omega
    ·exact q
theorem Srt.ext{v w:Tx}(hv:Srt v)(hw:Srt w)(a:le v w)(b:le w v):v=w:=
 (dZ hv hw a).eq_of_length (Nat.le_antisymm (dZ hv hw a).length_le (dZ hw hv b).length_le)
theorem zZ{v w:Tx}(hv:Srt v)(hw:Srt w)(a:le v w)(n:v≠w):v.length < w.length:=by
 have s:=dZ hv hw a
 rcases Nat.lt_or_ge v.length w.length with h |h
 ·exact h
 ·exact absurd (s.eq_of_length (Nat.le_antisymm s.length_le h)) n
def key(w:Tx):NhSG.Ky:=((w.length:Int),w)
def kf(v w:Tx):Prop:=NhSG.gL (key v) (key w)=true
theorem vm{v w:Tx}(h:v.length < w.length):kf v w:=NhSG.ltKy_iff.mpr (.inl (by simp only[key];omega))
theorem oO(v:Tx):¬kf v v:=fun h=>by
 have:=(NhSG.gm default).irrefl (key v)
 unfold kf at h
 rw[show NhSG.gL (key v) (key v)=false from this]at h
 cases h
theorem qu{v w:Tx}(h1:¬kf v w)(h2:¬kf w v):v=w:=by
 have h:=(NhSG.gm default).total (key v) (key w) (by simpa[kf]using h1) (by simpa[kf]using h2)
 exact congrArg Prod.snd h
theorem qv{u v w:Tx}(a:kf u v)(b:kf v w):kf u w:=(NhSG.gm default).trans _ _ _ a b
theorem qw{v w:Tx}(a:kf v w):¬kf w v:=fun b=>oO v (qv a b)
def up(F:List Tx)(w:Tx):Prop:=∃v∈F,le v w
def Min(U:Tx)(f:Tx→Prop)(w:Tx):Prop:=Sub U w∧f w∧∀v,Sub U v→f v→le v w→v=w
structure Told (U:Tx) (L:List Tx) (f:Tx→Prop):Prop where
 srt:L.Pairwise kf
 mem:∀w,w∈L↔Min U f w
def z_(U:Tx)(f:Tx→Prop):Prop:=∀v w,Sub U v→Sub U w→le v w→f v→f w
theorem oP{U:Tx}{f:Tx→Prop}:∀(n:Nat) (w:Tx),w.length≤n→Sub U w→f w→∃v,Min U f v∧le v w
 |n,w,hn,hw,hf=>by
  by_cases h:∀v,Sub U v→f v→le v w→v=w
  ·exact⟨w,⟨hw,hf,h⟩,le.refl w⟩
  ·obtain⟨v,h⟩:=Classical.not_forall.mp h
   obtain⟨v1,h⟩:=Classical.not_imp.mp h
   obtain⟨v2,h⟩:=Classical.not_imp.mp h
   obtain⟨v3,v4⟩:=Classical.not_imp.mp h
   have:=zZ v1.1 hw.1 v3 v4
   cases n with
   |zero=>omega
   |succ n=>
    obtain⟨u,a,b⟩:=oP n v (by omega) v1 v2
    exact⟨u,a,b.trans v3⟩
theorem Told.sub{U:Tx}{L:List Tx}{f:Tx→Prop}(h:Told U L f):∀w∈L,Sub U w:=fun w hw=>((h.mem w).mp hw).1
theorem Told.up_iff{U:Tx}{L:List Tx}{f:Tx→Prop}(h:Told U L f)(m:z_ U f){w:Tx}(hw:Sub U w):up L w↔f w:=by
 constructor
 ·rintro⟨v,hv,l⟩
  have:=(h.mem v).mp hv
  exact m v w this.1 hw l this.2.1
 ·intro hf
  obtain⟨v,a,b⟩:=oP w.length w (fQ _) hw hf
  exact⟨v,(h.mem v).mpr a,b⟩
theorem Min.congr{U:Tx}{f g:Tx→Prop}(h:∀w,Sub U w→(f w↔g w)){w:Tx}:Min U f w↔Min U g w:=by
 constructor
 ·rintro⟨a,b,c⟩;exact⟨a,(h w a).mp b,fun v v1 v2 v3=>c v v1 ((h v v1).mpr v2) v3⟩
 ·rintro⟨a,b,c⟩;exact⟨a,(h w a).mpr b,fun v v1 v2 v3=>c v v1 ((h v v1).mp v2) v3⟩
theorem Told.congr{U:Tx}{L:List Tx}{f g:Tx→Prop}(a:Told U L f)(h:∀w,Sub U w→(f w↔g w)):Told U L g:=⟨a.srt,fun w=>(a.mem w).trans (Min.congr h)⟩
theorem j5{L:List Tx}(h:L.Pairwise kf):L.Nodup:=h.imp fun {a b} h e=>by subst e;exact oO a h
theorem Aa{L L':List Tx}(a:L.Pairwise kf)(b:L'.Pairwise kf)(h:∀w,w∈L↔w∈L'):L=L':=
 ((List.perm_ext_iff_of_nodup (j5 a) (j5 b)).mpr h).eq_of_pairwise (fun x y _ _ p q=>absurd q (qw p)) a b
theorem Told.uniq{U:Tx}{L L':List Tx}{f g:Tx→Prop}(a:Told U L f)(b:Told U L' g)(h:∀w,Sub U w→(f w↔g w)):L=L':=
 Aa a.srt b.srt fun w=>(a.mem w).trans ((Min.congr h).trans (b.mem w).symm)
theorem Cq(U:Tx)(F:List Tx):z_ U (up F):=fun v w _ _ l ⟨u,hu,h⟩=>⟨u,hu,h.trans l⟩
theorem vn{U:Tx}{F:List Tx}(hF:∀v∈F,Sub U v){w:Tx}:Min U (up F) w↔w∈F∧∀v∈F,le v w→v=w:=by
 constructor
 ·rintro⟨a,⟨v,hv,l⟩,c⟩
  have e:=c v (hF v hv) ⟨v,hv,le.refl v⟩ l
  subst e
  exact⟨hv,fun u hu l=>c u (hF u hu) ⟨u,hu,le.refl u⟩ l⟩
 ·rintro⟨a,b⟩
  refine⟨hF w a,⟨w,a,le.refl w⟩,fun v hv ⟨u,hu,l⟩ lv=>?_⟩
  have e:=b u hu (l.trans lv)
  subst e
  exact hv.1.ext (hF u hu).1 lv l
def jK(K:List Tx):List Tx→List Tx
 |[]=>K
 |w::r=>if K.any (fun k=>decide (le k w))then jK K r else jK (K++[w]) r
theorem kT:∀(S K Pre:List Tx),(∀v∈Pre++S,Srt v)→(∀v∈Pre,∃k∈K,le k v)→(∀k∈K,k∈Pre)→(∀v∈Pre,∀w∈S,¬kf w v)→S.Pairwise (fun a b=>¬kf b a)→
  (∀k∈K,∀v∈Pre,le v k→v=k)→K.Pairwise kf→(jK K S).Pairwise kf∧∀w,w∈jK K S↔w∈Pre++S∧∀v∈Pre++S,le v w→v=w
 |[],K,Pre,hs,h1,h2,h3,h4,h5,h6=>by
  refine⟨h6,fun w=>?_⟩
  simp only[jK,qJ]
  refine⟨fun hw=>⟨h2 w hw,h5 w hw⟩,fun⟨a,b⟩=>?_⟩
  obtain⟨k,hk,l⟩:=h1 w a
  rw[←b k (h2 k hk) l]
  exact hk
 |w::S,K,Pre,hs,h1,h2,h3,h4,h5,h6=>by
  have e:Pre++w::S=(Pre++[w])++S:=by simp
  have h4':=List.pairwise_cons.mp h4
  have sw:Srt w:=hs w (by simp)
  have back:∀k∈K,le w k→w=k:=fun k hk l=>Classical.byContradiction fun n=>h3 k (h2 k hk) w (by simp) (vm (zZ sw (hs k (by simp[h2 k hk])) l n))
  have o3:∀v∈Pre++[w],∀u∈S,¬kf u v:=fun v hv u hu=>by
   rcases Zan.mp hv with q |q
   ·exact h3 v q u (il _ hu)
   ·rw[Zab.mp q];exact h4'.1 u hu
  rw[e]at hs ⊢
  by_cases h:K.any (fun k=>decide (le k w))=true
  ·rw[jK,if_pos h]
   obtain⟨k0,hk0,l0⟩:=List.any_eq_true.mp h
   refine kT S K (Pre++[w]) hs (fun v hv=>?_) (fun k hk=>by simp[h2 k hk]) o3 h4'.2 (fun k hk v hv l=>?_) h6
   ·rcases Zan.mp hv with q |q
    ·exact h1 v q
    ·rw[Zab.mp q];exact⟨k0,hk0,of_decide_eq_true l0⟩
   ·rcases Zan.mp hv with q |q
    ·exact h5 k hk v q l
    ·rw[Zab.mp q]at l ⊢;exact back k hk l
  ·rw[jK,if_neg h]
   have no:∀k∈K,¬le k w:=fun k hk l=>h (List.any_eq_true.mpr ⟨k,hk,decide_eq_true l⟩)
   refine kT S (K++[w]) (Pre++[w]) hs (fun v hv=>?_) (fun k hk=>?_) o3 h4'.2 (fun k hk v hv l=>?_) ?_
   ·rcases Zan.mp hv with q |q
    ·obtain⟨k,hk,l⟩:=h1 v q;exact⟨k,by simp[hk],l⟩
    ·rw[Zab.mp q];exact⟨w,by simp,le.refl w⟩
   ·rcases Zan.mp hk with q |q
    ·simp[h2 k q]
    ·simp[Zab.mp q]
   ·rcases Zan.mp hk with p |p <;> rcases Zan.mp hv with q |q
    ·exact h5 k p v q l
    ·rw[Zab.mp q]at l ⊢;exact back k p l
    ·rw[Zab.mp p]at l ⊢
     obtain⟨k',hk',l'⟩:=h1 v q
     exact absurd (l'.trans l) (no k' hk')
    ·rw[Zab.mp p,Zab.mp q]
   ·refine List.pairwise_append.mpr ⟨h6,List.pairwise_singleton _ _,fun k hk u hu=>?_⟩
    rw[Zab.mp hu]
    refine Classical.byContradiction fun n=>no k hk ?_
    rw[qu n (h3 k (h2 k hk) w (by simp))]
    exact le.refl w
def jc(F:List Tx):List Tx:=F.mergeSort fun a b=> !NhSG.gL (key b) (key a)
theorem sortT_mem{F:List Tx}{w:Tx}:w∈jc F↔w∈F:=(List.mergeSort_perm F _).mem_iff
theorem qx(F:List Tx):(jc F).Pairwise fun a b=>¬kf b a:=by
 have h:=List.pairwise_mergeSort (le:=fun a b=> !NhSG.gL (key b) (key a)) (fun a b c h1 h2=>by
  have h1':¬kf b a:=by simpa[kf]using h1
  have h2':¬kf c b:=by simpa[kf]using h2
  have:¬kf c a:=fun z=>by
   by_cases q:kf a b
   ·exact h2' (qv z q)
   ·rw[qu q h1']at z;exact h2' z
  simpa[kf]using this) (fun a b=>by
  by_cases q:NhSG.gL (key b) (key a)=true
  ·have:¬kf a b:=qw q
   have:NhSG.gL (key a) (key b)=false:=by simpa[kf]using this
   simp[this]
  ·simp[Bool.not_eq_true _▸q]) F
 exact h.imp fun {a b} h=>by simpa[kf]using h
def aJ(F:List Tx):List Tx:=jK [] (jc F)
theorem ir{U:Tx}{F:List Tx}(hF:∀v∈F,Sub U v):Told U (aJ F) (up F):=by
 obtain⟨a,b⟩:=kT (jc F) [] [] (fun v hv=>(hF v (sortT_mem.mp (by simpa using hv))).1) (fun v hv=>by cases hv) (fun v hv=>by cases hv) (fun v hv=>by cases hv) (qx F) (fun v hv=>by cases hv) .nil
 refine⟨a,fun w=>(b w).trans ?_⟩
 rw[vn hF]
 simp only[Z8,sortT_mem]
def comp(U w:Tx):Tx:=U.filter fun x=> !decide (x∈w)
theorem comp_mem{U w:Tx}{x:Nat}:x∈comp U w↔x∈U∧x∉w:=by simp[comp]
def FZ(U:Tx)(f:Tx→Prop)(w:Tx):Prop:=¬f (comp U w)
def lJ(F:List Tx)(w:Tx):Prop:=∀v∈F,∃x∈v,x∈w
theorem qy{U:Tx}{F:List Tx}(hF:∀v∈F,Sub U v){w:Tx}:lJ F w↔FZ U (up F) w:=by
 constructor
 ·rintro h ⟨v,hv,l⟩
  obtain⟨x,hx,hw⟩:=h v hv
  exact(comp_mem.mp (l x hx)).2 hw
 ·intro h v hv
  refine Classical.byContradiction fun n=>h ⟨v,hv,fun x hx=>comp_mem.mpr ⟨(hF v hv).2 x hx,fun z=>n ⟨x,hx,z⟩⟩⟩
theorem vo{U V:Tx}{f:Tx→Prop}{L:List Tx}(hU:Srt U)(hV:Srt V)(l:le V U)(m:z_ U f)(h:∀w,Sub U w→f w→f (w.filter fun x=>decide (x∈V)))(t:Told V L f):Told U L f:=by
 refine⟨t.srt,fun w=>(t.mem w).trans ?_⟩
 have up':∀{w},Sub V w→Sub U w:=fun a=>⟨a.1,a.2.trans l⟩
 have cut:∀{w},Sub U w→Sub V (w.filter fun x=>decide (x∈V)):=fun a=>⟨a.1.filter _,fun x hx=>by simpa using(List.mem_filter.mp hx).2⟩
 have cl:∀w:Tx,le (w.filter fun x=>decide (x∈V)) w:=fun w x hx=>(List.mem_filter.mp hx).1
 constructor
 ·rintro⟨a,b,c⟩
  refine⟨up' a,b,fun v v1 v2 v3=>?_⟩
  have e:=c _ (cut v1) (h v v1 v2) ((cl v).trans v3)
  refine v1.1.ext a.1 v3 ?_
  rw[←e]
  exact cl v
 ·rintro⟨a,b,c⟩
  have e:=c _ (up' (cut a)) (h w a b) (cl w)
  rw[←e]
  refine⟨cut a,h w a b,fun v v1 v2 v3=>?_⟩
  rw[e]at v3 ⊢
  exact c v (up' v1) v2 v3
end NhFam
namespace NhFam
def hW(w:Tx):List Tx:=w.foldl (fun acc a=>acc++acc.map (· ++[a])) [[]]
theorem tV:∀(V:Tx) (acc:List Tx) (w:Tx),w∈V.foldl (fun acc a=>acc++acc.map (· ++[a])) acc↔∃u∈acc,∃t,t.Sublist V∧w=u++t
 |[],acc,w=>by
  constructor
  ·intro h;exact⟨w,h,[],.slnil,by simp⟩
  ·rintro⟨u,hu,t,ht,rfl⟩
   have:t=[]:=by simpa using ht
   subst this
   simpa using hu
 |a::V,acc,w=>by
  rw[List.foldl_cons,tV V]
  constructor
  ·rintro⟨u,hu,t,ht,rfl⟩
   rcases Zan.mp hu with q |q
   ·exact⟨u,q,t,ht.cons _,rfl⟩
   ·obtain⟨v,hv,rfl⟩:=Zap.mp q
    exact⟨v,hv,a::t,ht.cons_cons _,by simp⟩
  ·rintro⟨u,hu,t,ht,rfl⟩
   cases ht with
   |cons _ h=>exact⟨u,by simp[hu],t,h,rfl⟩
   |cons_cons _ h=>exact⟨u++[a],by simp[hu],_,h,by simp⟩
theorem jL{V:Tx}(hV:Srt V){w:Tx}:w∈hW V↔Sub V w:=by
 unfold hW
 rw[tV]
 constructor
 ·rintro⟨u,hu,t,ht,rfl⟩
  rw[Zab.mp hu,List.nil_append]
  exact⟨List.Pairwise.sublist ht hV,fun x hx=>ht.subset hx⟩
 ·intro h
  exact⟨[],by simp,w,dZ h.1 hV h.2,rfl⟩
theorem oQ(V:Tx):(hW V).length=2 ^ V.length:=by
 have key:∀(V:Tx) (acc:List Tx),(V.foldl (fun acc a=>acc++acc.map (· ++[a])) acc).length=acc.length*2 ^ V.length:=fun V=>by
  induction V with
  |nil=>intro acc;simp
  |cons a V ih=>
   intro acc
   rw[List.foldl_cons,ih,vH,fH,List.length_cons,Nat.pow_succ,←Nat.two_mul,Nat.mul_comm 2,Nat.mul_assoc,Nat.mul_comm 2]
 unfold hW
 rw[key]
 simp
def jd(F:List Tx)(w:Tx):Bool:=F.all fun v=> !decide (∀x∈v,x∉w)
theorem xR{F:List Tx}{w:Tx}:jd F w=true↔lJ F w:=by
 unfold jd lJ
 rw[Zbg]
 refine⟨fun h v hv=>?_,fun h v hv=>?_⟩
 ·have:=h v hv
  simp only[Bool.not_eq_true',decide_eq_false_iff_not]at this
  obtain⟨x,h⟩:=Classical.not_forall.mp this
  obtain⟨a,b⟩:=Classical.not_imp.mp h
  exact⟨x,a,Classical.not_not.mp b⟩
 ·obtain⟨x,a,b⟩:=h v hv
  simp only[Bool.not_eq_true',decide_eq_false_iff_not]
  exact fun z=>z x a b
theorem tW{U V:Tx}{f:Tx→Prop}{G:List Tx}(hU:Srt U)(hV:Srt V)(l:le V U)(m:z_ U f)(hG:∀w,w∈G↔Sub V w∧f w)(h:∀w,Sub U w→f w→f (w.filter fun x=>decide (x∈V))):Told U (aJ G) f:=by
 refine vo hU hV l m h ((ir fun v hv=>((hG v).mp hv).1).congr fun w hw=>?_)
 constructor
 ·rintro⟨v,hv,q⟩
  obtain⟨a,b⟩:=(hG v).mp hv
  exact m v w ⟨a.1,a.2.trans l⟩ ⟨hw.1,hw.2.trans l⟩ q b
 ·intro q
  exact⟨w,(hG w).mpr ⟨hw,q⟩,le.refl w⟩
theorem tX{U:Tx}{F:List Tx}(hF:∀v∈F,Sub U v){w:Tx}:lJ (aJ F) w↔lJ F w:=by
 have t:=ir hF
 constructor
 ·intro h v hv
  obtain⟨k,hk,l⟩:=(t.up_iff (Cq U F) (hF v hv)).mpr ⟨v,hv,le.refl v⟩
  obtain⟨x,a,b⟩:=h k hk
  exact⟨x,l x a,b⟩
 ·intro h v hv
  exact h v ((vn hF).mp ((t.mem v).mp hv)).1
def tY(F:List Tx)(V:Tx):List Tx:=aJ ((hW V).filter (jd (aJ F)))
theorem xS{F:List Tx}{V w:Tx}(hF:∀v∈F,le v V)(h:lJ F w):lJ F (w.filter fun x=>decide (x∈V)):=fun v hv=>by
 obtain⟨x,a,b⟩:=h v hv
 exact⟨x,a,List.mem_filter.mpr ⟨b,decide_eq_true (hF v hv x a)⟩⟩
theorem j6{U V:Tx}{F:List Tx}(hU:Srt U)(hV:Srt V)(l:le V U)(hF:∀v∈F,Sub U v)(hFV:∀v∈F,le v V):Told U (tY F V) (FZ U (up F)):=by
 refine(tW (f:=lJ F) hU hV l (fun v w _ _ q h u hu=>?_) (fun w=>?_) fun w _ h=>xS hFV h).congr fun w hw=>qy hF
 ·obtain⟨x,a,b⟩:=h u hu
  exact⟨x,a,q x b⟩
 ·rw[List.mem_filter,jL hV,xR,tX hF]
end NhFam
namespace Nhk37
open PySem L2 Nh PL
def oR:List (Str×Bool):=[("NoNails",false),("TooMany",false)]
def m4:List (Str×Bool):=[("NoNails",true),("TooMany",false)]
def oS:List (Str×Bool):=[("NoNails",false),("TooMany",false)]
def oU:List (Str×Bool):=[("NoNails",false),("TooMany",false)]
def oV:List (Str×Bool):=[("NoNails",false),("TooMany",false)]
def oW:List (Str×Bool):=[("NoNails",false),("TooMany",false)]
def oX:List (Str×Bool):=[("NoNails",false),("TooMany",false)]
def lK:List (Str×Bool):=[("NoNails",false),("TooMany",false)]
def m5:List (Str×Bool):=[("NoNails",false),("TooMany",true)]
def m6:List (Str×Bool):=[("NoNails",false),("TooMany",false)]
def jM:List (Str×Bool):=[("NoNails",true),("TooMany",true)]
def gT:dO:=(aO (i_ (iP (oa .str) (aa 0)) (i_ (ag jl false (gA gB (ad false (aa 0) aj)) (pC (.int 1))) (kJ (g8 .le) (g8 .le) false false (pC (.str "a")) (aa 0) (pC (.str "z"))))))
def bD:List PyData→Option Sl:=fz 1 1 gT
def a_:gK:=(kr 2 (g5 (aW 2) (g5 (aW 3) kq)))
def ba:dO:=(aP (aD 4 (aa 3))
 (aP (dD (jt (dh (aa 1)) (gS (ag jl false (ag lr false (ag lr false (aa 1) (iP nr (pC (.int 1)))) (pC (.int 0))) (aa 2))))
 (aD 4 (ag ck false (ag lr false (q_ 1) (pC (.int 1))) (aa 3)))
 bJ)
 (dD (gS (ag w6 false (aa 4) (pC (.int 0))))
 (fJ (eJ 1 (gJ (ak (aa 2) (ak (aa 4) bi)))))
 bJ)))
def gN:dO:=(aP (aD 1 (cQ bi))
 (aP (ii (bt (aa 0)) a_
 ba)
 (aO (aa 1))))
def d0:List PyData→Option Sl:=fz 1 5 gN
def j7:dO:=(aO (ag jl false (gA gB (ad false (ai d0 (ad false (aa 0) aj)) aj)) (pC (.int 0))))
def fA:List PyData→Option Sl:=fz 1 1 j7
def bT:gK:=(aW 1)
def bU:dO:=(dD (cG (dh (ai bD (ad false (aa 1) aj))))
 rk
 bJ)
def lM:dO:=(aP (dD (cG (dh (iP (oa .str) (aa 0))))
 rk
 bJ)
 (aP (ii (bt (aa 0)) bT
 bU)
 (aO (e_ "" (jE (aa 0))))))
def bv:List PyData→Option Sl:=fz 1 2 lM
def lN:iD:=(Er (AO (cG (dh (iP (oa .str) (aa 0)))) (tH "NoNails"))
 (tF (dD (cG (dh (iP (oa .str) (aa 0))))
 rk
 bJ)
 (FV (bt (aa 0)) bT bU (AO (cG (dh (ai bD (ad false (aa 1) aj)))) (tH "NoNails")))))
def cu:List PyData→Option Str:=u_ 1 2 lN
def gn:gK:=(kr 2 (g5 (aW 0) (g5 (aW 1) kq)))
def gq:bH:=(aa 0)
def i3:dO:=(aO (e_ "" (jE (ce [none,none] (bt (aa 0)) gn cr gq))))
def cN:List PyData→Option Sl:=fz 1 1 i3
def gO:gK:=(aW 0)
def gP:bH:=(aa 0)
def eX:kG:=(gS (ag (C8 true) false (ag lr false (aa 0) (pC (.int 0))) (aa 1)))
def j8:dO:=(aP (aD 2 (ai bv (ad false (aa 1) aj)))
 (aO (ce [none,some 2] (bt (aa 0)) gO eX gP)))
def fB:List PyData→Option Sl:=fz 2 3 j8
def mE:iD:=(fE cu (ad false (aa 1) aj))
def eR:List PyData→Option Str:=u_ 2 3 mE
def fq:dO:=(aO (ai fA (ad false (ai fB (ad false (aa 0) (ad false (aa 1) aj))) aj)))
def bF:List PyData→Option Sl:=fz 2 2 fq
def gD:iD:=(fE eR (ad false (aa 0) (ad false (aa 1) aj)))
def dG:List PyData→Option Str:=u_ 2 2 gD
def fK:gK:=(aW 3)
def fL:dO:=(aP (dD (gS (ag (C8 false) false (aa 3) (aa 0)))
 (aD 1 (ag ck false (aa 1) (aa 2)))
 bJ)
 (aD 2 (ag sM false (aa 2) (pC (.int 2)))))
def j9:dO:=(aP (aD 1 (pC (.int 0)))
 (aP (aD 2 (pC (.int 1)))
 (aP (ii (bt (pC (.str "abcdefghijklmnopqrstuvwxyz"))) fK
 fL)
 (aO (aa 1)))))
def bL:List PyData→Option Sl:=fz 1 4 j9
def ft:dO:=(aO (rQ (aa 0)))
def bn:List PyData→Option Sl:=fz 1 1 ft
def bP:gK:=(aW 2)
def bp:dO:=(dD (gS (ag jl false (ag uT false (aa 2) (aa 0)) (aa 2)))
 (aO (pC (.bool true)))
 bJ)
def dH:dO:=(aP (ii (bt (aa 1)) bP
 bp)
 (aO (pC (.bool false))))
def aQ:List PyData→Option Sl:=fz 2 3 dH
def cZ:gK:=(aW 2)
def cD:dO:=(dD (gS (ag jl false (ag uT false (aa 2) (aa 0)) (pC (.int 0))))
 (aO (pC (.bool false)))
 bJ)
def fM:dO:=(aP (ii (bt (aa 1)) cZ
 cD)
 (aO (pC (.bool true))))
def cf:List PyData→Option Sl:=fz 2 3 fM
def du:gK:=(aW 3)
def cO:dO:=(aP (aD 4 (ai bL (ad false (aa 3) aj)))
 (dD (cG (dh (ai aQ (ad false (aa 4) (ad false (aa 2) aj)))))
 (aP (fJ (eJ 2 (aa 4)))
 (fJ (eJ 1 (aa 3))))
 bJ))
def hZ:dO:=(aP (aD 1 (cQ bi))
 (aP (aD 2 (cQ bi))
 (aP (ii (bt (ai bn (ad false (aa 0) aj))) du
 cO)
 (aO (aa 1)))))
def aT:List PyData→Option Sl:=fz 1 5 hZ
def gr:gK:=(aW 0)
def fi:bH:=(ag ck false (aa 0) (aa 1))
def d7:gK:=(aW 2)
def d8:dO:=(aD 1 (ag ck false (aa 1) (ce [none,some 2] (bt (aa 1)) gr cr fi)))
def h9:dO:=(aP (aD 1 (cQ (ak (pC (.str "")) bi)))
 (aP (ii (bt (aa 0)) d7
 d8)
 (aO (aa 1))))
def aU:List PyData→Option Sl:=fz 1 3 h9
def gQ:dO:=(dD (gS (ag (fu (g8 .gt)) false (gA gB (ad false (aa 0) aj)) (pC (.int 10))))
 rk
 bJ)
def be:List PyData→Option Sl:=fz 1 1 gQ
def fN:iD:=(AO (gS (ag (fu (g8 .gt)) false (gA gB (ad false (aa 0) aj)) (pC (.int 10)))) (tH "TooMany"))
def cg:List PyData→Option Str:=u_ 1 1 fN
def fj:dO:=(aO (ai bv (ad false (e_ "" (aa 0)) aj)))
def aN:List PyData→Option Sl:=fz 1 1 fj
def bg:gK:=(aW 0)
def bh:bH:=(ai bv (ad false (aa 0) aj))
def fO:dO:=(aO (ai aT (ad false (ce [none] (bt (aa 0)) bg cr bh) aj)))
def aF:List PyData→Option Sl:=fz 1 1 fO
def gR:iD:=(tU [none] (bt (aa 0)) (aW 0) (ai bv (ad false (aa 0) aj)) (fE cu (ad false (aa 0) aj)))
def bI:List PyData→Option Str:=u_ 1 1 gR
def aR:gK:=(aW 0)
def aS:bH:=(ai bL (ad false (aa 0) aj))
def cw:gK:=(aW 0)
def cy:bH:=(aa 0)
def bM:kG:=(dh (ai cf (ad false (ai bL (ad false (aa 0) aj)) (ad false (aa 1) aj))))
def eS:dO:=(aP (aD 1 (ce [none] (bt (ai aF (ad false (aa 0) aj))) aR cr aS))
 (aP (aD 2 (ai aN (ad false (aa 0) aj)))
 (aP (fJ (ai be (ad false (aa 2) aj)))
 (aO (ai aT (ad false (ce [none,some 1] (bt (ai aU (ad false (aa 2) aj))) cw bM cy) aj))))))
def aG:List PyData→Option Sl:=fz 1 3 eS
def eT:iD:=(Er (fE bI (ad false (aa 0) aj))
 (tF (aD 1 (ce [none] (bt (ai aF (ad false (aa 0) aj))) aR cr aS))
 (tF (aD 2 (ai aN (ad false (aa 0) aj)))
 (fE cg (ad false (aa 2) aj)))))
def bA:List PyData→Option Str:=u_ 1 3 eT
def dl:gK:=(aW 0)
def dm:bH:=(aa 0)
def cA:kG:=(dh (ai bF (ad false (aa 1) (ad false (aa 0) aj))))
def eU:dO:=(aP (aD 1 (ai cN (ad false (aa 0) aj)))
 (aP (fJ (ai be (ad false (aa 1) aj)))
 (aO (ai aT (ad false (ce [none,some 0] (bt (ai aU (ad false (aa 1) aj))) dl cA dm) aj)))))
def aM:List PyData→Option Sl:=fz 1 2 eU
def eW:iD:=(tF (aD 1 (ai cN (ad false (aa 0) aj)))
 (fE cg (ad false (aa 1) aj)))
def bV:List PyData→Option Str:=u_ 1 2 eW
def dI:dO:=(aO (ai aG (ad false (ai aM (ad false (aa 0) aj)) aj)))
def c_:List PyData→Option Sl:=fz 1 1 dI
def ie:iD:=(fE bV (ad false (aa 0) aj))
def dX:List PyData→Option Str:=u_ 1 1 ie
def lO:dO:=(aP (dD (gS (ag (fu (g8 .lt)) false (aa 1) (gA gB (ad false (aa 0) aj))))
 (aO (ag lr false (aa 0) (aa 1)))
 bJ)
 (aO (pC (.int 0))))
def bw:List PyData→Option Sl:=fz 2 2 lO
def i5:dO:=(aP (aD 1 (cQ (ak (iP (ke oR) (aa 0)) (ak (iP (ke oS) (aa 0)) (ak (iP (ke oU) (aa 0)) (ak (iP (ke oV) (aa 0)) bi))))))
 (aP (aD 1 (ag ck false (aa 1) (cQ (ak (iP (ke oW) (aa 0)) (ak (iP (ke oX) (aa 0)) (ak (iP (ke lK) (aa 0)) (ak (iP (ke m6) (aa 0)) bi)))))))
 (aO (aa 1))))
def gu:List PyData→Option Sl:=fz 1 2 i5
def iB:dO:=(aP (dD (yQ (cG (dh (iP (ke jM) (aa 2)))) (gS (ag (fu (Cf false)) false (pC (.bool true)) (ai gu (ad false (aa 2) aj)))))
 (aO (pC (.bool false)))
 bJ)
 (aO (ag jl false (cQ (ak (iP (ke m4) (aa 2)) (ak (iP (ke m5) (aa 2)) bi))) (cQ (ak (ag jl false (aa 1) (pC (.int 0))) (ak (ag jl false (aa 1) (pC (.int 1))) bi))))))
def aH:Str→PyData→Option Sl:=G4 3 2 iB
def i6:dO:=(aP (aD 1 (pC (.str " !\"#$&'()*+,-./0123456789:;<=>?@ABCDEFGHIJKLMNOPQRSTUVWXYZ[\\]^_`{|}~\n\t")))
 (aO (ag lr false (aa 1) (ag b7 false (aa 0) (gA gB (ad false (aa 1) aj))))))
def cm:List PyData→Option Sl:=fz 1 2 i6
def eY:dO:=(aP (dD (gS (ag (fu (g8 .lt)) false (ag b7 false (aa 0) (pC (.int 3))) (pC (.int 2))))
 (aP (aD 1 (fe false (pC (.str "qazwsxedc")) (cI (ag b7 false (ag bo false (aa 0) (pC (.int 3))) (pC (.int 9)))) cH))
 (aP (aD 2 (ag b7 false (ag bo false (aa 0) (pC (.int 27))) (ag ck false (gA gB (ad false (aa 1) aj)) (pC (.int 1)))))
 (aO (ag ck false (ag ck false (fe false (aa 1) cH (cI (aa 2))) (ai cm (ad false (ag bo false (aa 0) (pC (.int 5))) aj))) (fe false (aa 1) (cI (aa 2)) cH)))))
 bJ)
 (aO (ag lr false (cQ (ak (pC .none) (ak (pC (.int 7)) (ak (pC (.bool true)) (ak (cQ (ak (pC (.str "a")) bi)) (ak (gJ (ak (pC (.str "a")) (ak (pC (.str "b")) bi))) (ak (pC (.int 0)) (ak FW bi)))))))) (ag b7 false (ag bo false (aa 0) (pC (.int 3))) (pC (.int 7))))))
def fD:List PyData→Option Sl:=fz 1 3 eY
def d9:gK:=(aW 0)
def dw:bH:=(ag lr false (aa 1) (ag b7 false (ag ck false (aa 2) (ag sM false (pC (.int 7)) (aa 0))) (pC (.int 26))))
def fZ:dO:=(aP (aD 2 (pC (.str "abcdefghijklmnopqrstuvwxyz")))
 (aO (ce [none,some 2,some 0] (oi (ad false (aa 1) aj)) d9 cr dw)))
def av:List PyData→Option Sl:=fz 2 3 fZ
def b8:dO:=(aP (dD (cG (dh (nv [0] 1 cu (ad false (aa 0) aj) ["NoNails","TooMany"] aH 0)))
 (aO (pC (.bool false)))
 bJ)
 (aP (aD 2 (fe false (cQ (ak (pC (.str "ab")) (ak (pC (.str "bc")) (ak (pC (.str "ca")) (ak (pC (.str "d")) bi))))) cH (cI (ag b7 false (aa 1) (pC (.int 5))))))
 (aP (aD 3 (ag b7 false (ag bo false (aa 1) (pC (.int 5))) (ag ck false (gA gB (ad false (aa 2) aj)) (pC (.int 1)))))
 (aP (aD 4 (ag g_ false (ag g_ false (fe false (aa 2) cH (cI (aa 3))) (qi (ad false (aa 0) aj))) (fe false (aa 2) (cI (aa 3)) cH)))
 (aP (dD (cG (dh (nv [4] 1 bI (ad false (aa 0) aj) ["NoNails","TooMany"] aH 0)))
 (aO (pC (.bool false)))
 bJ)
 (aP (dD (cG (dh (nv [4] 1 bA (ad false (aa 0) aj) ["NoNails","TooMany"] aH 0)))
 (aO (pC (.bool false)))
 bJ)
 (aP (aD 5 (ag g_ false (aa 4) (ai av (ad false (aa 1) (ad false (pC (.int 12)) aj)))))
 (aO (nv [5] 1 bA (ad false (aa 0) aj) ["NoNails","TooMany"] aH 0)))))))))
def cK:List PyData→Option Sl:=fz 2 6 b8
def bQ:dO:=(aP (aD 2 (cQ (ak (gJ (ak (ag lr false (pC (.str "abcd")) (ag b7 false (ag bo false (aa 1) (pC (.int 7))) (pC (.int 4)))) (ak (pC (.int 1)) bi))) (ak (gJ (ak (pC (.str "b")) (ak (ag b7 false (aa 1) (pC (.int 5))) bi))) (ak (gJ (ak (ag lr false (pC (.str "abcd")) (ag b7 false (ag bo false (aa 1) (pC (.int 7))) (pC (.int 4)))) (ak (iP nr (pC (.int 1))) bi))) bi)))))
 (aP (aD 3 (jw (aa 2)))
 (aP (dD (cG (dh (nv [2,0] 2 eR (ad false (aa 0) (ad false (aa 1) aj)) ["NoNails","TooMany"] aH 0)))
 (aO (pC (.bool false)))
 bJ)
 (aO (i_ (nv [2,0] 2 dG (ad false (aa 0) (ad false (aa 1) aj)) ["NoNails","TooMany"] aH 0) (ag jl false (aa 2) (aa 3)))))))
def cq:List PyData→Option Sl:=fz 2 4 bQ
def cX:gK:=(aW 0)
def bZ:bH:=(gJ (ak (aa 0) (ak (aa 1) bi)))
def b9:dO:=(aP (aD 1 (ag ck false (pC (.int 11)) (ag b7 false (aa 0) (pC (.int 6)))))
 (aP (aD 2 (ag b7 false (ag bo false (aa 0) (pC (.int 6))) (pC (.int 3))))
 (aP (aD 3 (ce [none,some 2] (bt (ai av (ad false (aa 0) (ad false (aa 1) aj)))) cX cr bZ))
 (aP (dD (cG (dh (nv [3] 1 bV (ad false (aa 0) aj) ["NoNails","TooMany"] aH 1)))
 (aO (pC (.bool false)))
 bJ)
 (aP (dD (cG (dh (nv [3] 1 dX (ad false (aa 0) aj) ["NoNails","TooMany"] aH 1)))
 (aO (pC (.bool false)))
 bJ)
 (aP (aD 4 (ag ck false (ai av (ad false (aa 0) (ad false (ag uO false (aa 1) (pC (.int 2))) aj))) (cQ (ak (e_ "" (ai av (ad false (aa 0) (ad false (aa 1) aj)))) bi))))
 (aP (dD (cG (dh (nv [4] 1 bA (ad false (aa 0) aj) ["NoNails","TooMany"] aH 1)))
 (aO (pC (.bool false)))
 bJ)
 (aP (dD (gS (ag w6 false (ag b7 false (aa 0) (pC (.int 4))) (pC (.int 1))))
 (aO (pC (.bool true)))
 bJ)
 (aP (aD 5 (ai av (ad false (aa 0) (ad false (pC (.int 10)) aj))))
 (aO (i_ (ag jl false (ai aG (ad false (jw (aa 5)) aj)) (cQ (ak (e_ "" (iU (aa 5))) bi))) (ag jl false (ai aG (ad false (cQ (ak (e_ "" (aa 5)) bi)) aj)) (iU (aa 5))))))))))))))
def cL:List PyData→Option Sl:=fz 1 6 b9
def eM:gK:=(aW 0)
def cB:bH:=(gJ (ak (aa 0) (ak (ag ck false (pC (.int 1)) (ag b7 false (aa 1) (pC (.int 3)))) bi)))
def dJ:dO:=(aP (aD 1 (ai av (ad false (aa 0) (ad false (pC (.int 10)) aj))))
 (aP (aD 2 (ce [none,some 0] (bt (aa 1)) eM cr cB))
 (aO (i_ (ag jl false (ai aM (ad false (aa 2) aj)) (cQ (ak (e_ "" (iU (aa 1))) bi))) (ag jl false (ai c_ (ad false (aa 2) aj)) (iU (aa 1)))))))
def de:List PyData→Option Sl:=fz 1 3 dJ
def jN:gK:=(aW 1)
def iL:dO:=(aP (aD 2 (ai fD (ad false (aa 1) aj)))
 (aP (dD (yQ (cG (dh (ai cK (ad false (aa 2) (ad false (ag bo false (aa 1) (pC (.int 2))) aj))))) (cG (dh (ai cq (ad false (aa 2) (ad false (ag bo false (aa 1) (pC (.int 3))) aj))))))
 (aO (pC (.bool false)))
 bJ)
 (dD (cG (dh (ai cL (ad false (ag bo false (aa 1) (pC (.int 5))) aj))))
 (aO (pC (.bool false)))
 bJ)))
def qz:dO:=(aP (dD (jt (gS (ag jl false (ag b7 false (ai bw (ad false (aa 0) (ad false (pC (.int 0)) aj))) (pC (.int 16))) (pC (.int 5)))) (cG (dh (ai de (ad false (ag bo false (ai bw (ad false (aa 0) (ad false (pC (.int 0)) aj))) (pC (.int 16))) aj)))))
 (aO (pC (.bool false)))
 bJ)
 (aP (ii (bt (ag ck false (fe false (aa 0) cH (cI (pC (.int 16)))) (cQ (ak (ag ck false (ai bw (ad false (aa 0) (ad false (pC (.int 1)) aj))) (pC (.int 5))) bi)))) jN
 iL)
 (aO (pC (.bool true)))))
def mF:List PyData→Option Sl:=fz 1 3 qz
end Nhk37
namespace Nhk37
open PySem L2 Nh PL
def lg(i:Nat):Stmt:=PySem.Challenge.pw_nailhang_k37_sets_refused.main.body.getD i (.Pass ⟨0,0,0,0⟩)
structure XF (K:Frag) (mg:Str→Option Value):Prop where
 c_NoCord:∃C,mg "NoCord"=some (.ref C)∧XT K (.ref C) oR
 c_NoNails:∃C,mg "NoNails"=some (.ref C)∧XT K (.ref C) m4∧XC K mg "NoNails" C
 c_NoRule:∃C,mg "NoRule"=some (.ref C)∧XT K (.ref C) oS
 c_NoText:∃C,mg "NoText"=some (.ref C)∧XT K (.ref C) oU
 c_NoMove:∃C,mg "NoMove"=some (.ref C)∧XT K (.ref C) oV
 c_NoLine:∃C,mg "NoLine"=some (.ref C)∧XT K (.ref C) oW
 c_NoName:∃C,mg "NoName"=some (.ref C)∧XT K (.ref C) oX
 c_NoNumber:∃C,mg "NoNumber"=some (.ref C)∧XT K (.ref C) lK
 c_TooMany:∃C,mg "TooMany"=some (.ref C)∧XT K (.ref C) m5∧XC K mg "TooMany" C
 c_TooLong:∃C,mg "TooLong"=some (.ref C)∧XT K (.ref C) m6
 v_ValueError:mg "ValueError"=none∧XT K (.type "ValueError") jM
 e_HangError:∃C,mg "HangError"=some (.ref C)∧∀n∈[("NoNails":Str),("TooMany":Str)],∀D,nsIn K mainGlobals n=some (some (.ref D))→exmOne K (.ref D) (.ref C)=some true
section
variable {P:Program} {w:World} {K:Frag} {mg:Str→Option Value} {base:Heap}
abbrev gU:Stmt:=lg 13
theorem vp:FnScope ["thing"] ["thing"] (af gU):=by and_intros
theorem vq (D:Def K mg "is_nail" gU ["thing"]) (B:Bn mg):Own P w K mg base 1 "is_nail" ["thing"] (cM K bD):=by
 delta bD
 refine g6 (g:=gT) D vp rfl rfl (by decide) fun f cdv A outer s H E hr=>?_
 delta gT
 exact(aq (aK (n_ (q9 .str (by rfl) (by exact B.isinstance) (ae 0) (by rfl) (by exact B.str) PyProof.Rows.boot_str) (n_ (kn hr.units (jv (by rfl) (by exact B.len) (ah (ae 0) ar)) aw) (qZ (FJ .le .le fb (ae 0) fb))))))
abbrev eZ:Stmt:=lg 14
theorem sc_short_form:FnScope ["cord","runs","nail","turns","total"] ["cord"] (af eZ):=by and_intros
theorem pM (D:Def K mg "short_form" eZ ["cord"]) (B:Bn mg):Own P w K mg base 1 "short_form" ["cord"] (cM K d0):=by
 delta d0
 refine g6 (g:=gN) D sc_short_form rfl rfl (by decide) fun f cdv A outer s H E hr=>?_
 delta gN
 exact(ao (aV 1 sc_short_form.nd (eQ DL.nil))
 (ao (jx PassesOwn.never (by rfl) (dF (ae 0)) (by delta a_;exact(yY (by rfl) (ly (bK 2 sc_short_form.nd) (ly (bK 3 sc_short_form.nd) v8))))
 (by delta ba;exact(ao (aV 4 sc_short_form.nd (ae 3))
 (ao (dW (BG (yS (cY (ae 1)) (vZ (vY hr.units (ko (ko (ae 1) (yL aw)) aw) (ae 2)))))
 (aq (aV 4 sc_short_form.nd (fw (ko (Eb 1) aw) (ae 3))))
 bx)
 (aq (dW (C4 hr.units (ae 4) aw)
 (aq (lw (mj 1 (kQ (DL.cons (ae 2) rfl (DL.cons (ae 4) rfl DL.nil))))))
 bx))))))
 (aq (aK (ae 1)))))
abbrev gV:Stmt:=lg 15
theorem vt:FnScope ["cord"] ["cord"] (af gV):=by and_intros
theorem vv (D:Def K mg "is_fall" gV ["cord"]) (B:Bn mg) (D_short_form:Own P w K mg base 1 "short_form" ["cord"] (cM K d0)):Own P w K mg base 2 "is_fall" ["cord"] (cM K fA):=by
 delta fA
 refine g6 (g:=j7) D vt rfl rfl (by decide) fun f cdv A outer s H E hr=>?_
 delta j7
 exact(aq (aK (kn hr.units (jv (by rfl) (by exact B.len) (ah (aC D_short_form (hr.mono (by decide)) (by rfl) (ah (ae 0) ar)) ar)) aw)))
abbrev ig:Stmt:=lg 17
theorem sc_set_of:FnScope ["nails","sign"] ["nails"] (af ig):=by and_intros
theorem xT (D:Def K mg "set_of" ig ["nails"]) (B:Bn mg) (D_is_nail:Own P w K mg base 1 "is_nail" ["thing"] (cM K bD)) (XX:XF K mg):Own P w K mg base 2 "set_of" ["nails"] (cM K bv):=by
 obtain⟨C_NoNails,m_NoNails,t_NoNails,z_NoNails⟩:=XX.c_NoNails
 delta bv
 refine g6 (g:=lM) D sc_set_of rfl rfl (by decide) fun f cdv A outer s H E hr=>?_
 delta lM
 exact(ao (dW (dP (cY (q9 .str (by rfl) (by exact B.isinstance) (ae 0) (by rfl) (by exact B.str) PyProof.Rows.boot_str)))
 (aq jA)
 bx)
 (ao (jx PassesOwn.never (by rfl) (dF (ae 0)) (by delta bT;exact(bK 1 sc_set_of.nd))
 (by delta bU;exact(aq (dW (dP (cY (aC D_is_nail (hr.mono (by decide)) (by rfl) (ah (ae 1) ar))))
 (aq jA)
 bx))))
 (aq (aK (iT (oH rfl (by rfl) (by exact B.sorted) (by rfl) (by exact B.set) (ae 0)))))))
theorem vw (D:Def K mg "set_of" ig ["nails"]) (B:Bn mg) (D_is_nail:Own P w K mg base 1 "is_nail" ["thing"] (cM K bD)) (XX:XF K mg):OwnR P w K mg base 2 "set_of" ["nails"] (jk K cu):=by
 obtain⟨C_NoNails,m_NoNails,t_NoNails,z_NoNails⟩:=XX.c_NoNails
 delta cu
 refine tI (mk:=true) (al:=true) (r:=lN) D sc_set_of rfl rfl (by decide) fun f cdv A outer s H E hr=>?_
 delta lN
 exact(Da (eL (zz (dP (cY (q9 .str (by rfl) (by exact B.isinstance) (ae 0) (by rfl) (by exact B.str) PyProof.Rows.boot_str))) (eL (oK (by rfl) (by rfl) z_NoNails))))
 (rG (dW (dP (cY (q9 .str (by rfl) (by exact B.isinstance) (ae 0) (by rfl) (by exact B.str) PyProof.Rows.boot_str)))
 (aq jA)
 bx)
 (eL (EF rfl rfl (by rfl) (fun W=>(dF (ae 0))) (fun W=>by delta bT;exact(bK 1 sc_set_of.nd)) (by delta bU;exact(aq (dW (dP (cY (aC D_is_nail (hr.mono (by decide)) (by rfl) (ah (ae 1) ar))))
 (aq jA)
 bx))) (fun W=>(eL (zz (dP (cY (aC D_is_nail (hr.mono (by decide)) (by rfl) (ah (ae 1) ar)))) (eL (oK (by rfl) (by rfl) z_NoNails)))))))))
abbrev f_:Stmt:=lg 18
theorem tZ:FnScope ["cord"] ["cord"] (af f_):=by and_intros
theorem t5 (D:Def K mg "nails_of" f_ ["cord"]) (B:Bn mg):Own P w K mg base 1 "nails_of" ["cord"] (cM K cN):=by
 delta cN
 refine g6 (g:=i3) D tZ rfl rfl (by decide) fun f cdv A outer s H E hr=>?_
 delta i3
 exact(aq (aK (iT (oH rfl (by rfl) (by exact B.sorted) (by rfl) (by exact B.set) (g7 (N:=["nail","turns"]) (js:=[none,none]) fV (by rfl) (dF (ae 0)) (fun _ _ _ _=>(by delta gn;exact(yY (by rfl) (ly (bK 0 (show(["nail","turns"]:List Str).Nodup by decide+kernel)) (ly (bK 1 (show(["nail","turns"]:List Str).Nodup by decide+kernel)) v8))))) (fun _ _ _ _=>(by delta gq;exact(ae 0))))))))
abbrev gb:Stmt:=lg 19
theorem sc_without:FnScope ["cord","nails","drawn"] ["cord","nails"] (af gb):=by and_intros
theorem vx (D:Def K mg "without" gb ["cord","nails"]) (B:Bn mg) (D_set_of:Own P w K mg base 2 "set_of" ["nails"] (cM K bv)) (R_set_of:OwnR P w K mg base 2 "set_of" ["nails"] (jk K cu)):Own P w K mg base 3 "without" ["cord","nails"] (cM K fB):=by
 delta fB
 refine g6 (g:=j8) D sc_without rfl rfl (by decide) fun f cdv A outer s H E hr=>?_
 delta j8
 exact(ao (aV 2 sc_without.nd (aC D_set_of (hr.mono (by decide)) (by rfl) (ah (ae 1) ar)))
 (aq (aK (oj (N:=["piece","drawn"]) (js:=[none,some 2]) g9 (by rfl) (dF (ae 0)) (fun _ _ _ _=>(by delta gO;exact(bK 0 (show(["piece","drawn"]:List Str).Nodup by decide+kernel)))) (fun _ _ _ _=>(by delta eX;exact(Ek (ko (ae 0) aw) (ae 1)))) (fun _ _ _ _=>(by delta gP;exact(ae 0)))))))
theorem t6 (D:Def K mg "without" gb ["cord","nails"]) (B:Bn mg) (D_set_of:Own P w K mg base 2 "set_of" ["nails"] (cM K bv)) (R_set_of:OwnR P w K mg base 2 "set_of" ["nails"] (jk K cu)):OwnR P w K mg base 3 "without" ["cord","nails"] (jk K eR):=by
 delta eR
 refine tI (mk:=true) (al:=true) (r:=mE) D sc_without rfl rfl (by decide) fun f cdv A outer s H E hr=>?_
 delta mE
 exact(eL (Et R_set_of (hr.mono (by decide)) (by rfl) (ah (ae 1) ar)))
abbrev cE:Stmt:=lg 20
theorem iM:FnScope ["cord","nails"] ["cord","nails"] (af cE):=by and_intros
theorem mG (D:Def K mg "falls_without" cE ["cord","nails"]) (B:Bn mg) (D_without:Own P w K mg base 3 "without" ["cord","nails"] (cM K fB)) (D_is_fall:Own P w K mg base 2 "is_fall" ["cord"] (cM K fA)) (R_without:OwnR P w K mg base 3 "without" ["cord","nails"] (jk K eR)):Own P w K mg base 4 "falls_without" ["cord","nails"] (cM K bF):=by
 delta bF
 refine g6 (g:=fq) D iM rfl rfl (by decide) fun f cdv A outer s H E hr=>?_
 delta fq
 exact(aq (aK (aC D_is_fall (hr.mono (by decide)) (by rfl) (ah (aC D_without (hr.mono (by decide)) (by rfl) (ah (ae 0) (ah (ae 1) ar))) ar))))
theorem lP (D:Def K mg "falls_without" cE ["cord","nails"]) (B:Bn mg) (D_without:Own P w K mg base 3 "without" ["cord","nails"] (cM K fB)) (D_is_fall:Own P w K mg base 2 "is_fall" ["cord"] (cM K fA)) (R_without:OwnR P w K mg base 3 "without" ["cord","nails"] (jk K eR)):OwnR P w K mg base 4 "falls_without" ["cord","nails"] (jk K dG):=by
 delta dG
 refine tI (mk:=true) (al:=true) (r:=gD) D iM rfl rfl (by decide) fun f cdv A outer s H E hr=>?_
 delta gD
 exact(eL (rS (vj D_is_fall (by rfl) (nQ R_without (hr.mono (by decide)) (by rfl) (ah (ae 0) (ah (ae 1) ar))))))
abbrev gW:Stmt:=lg 24
theorem sc_bits_of:FnScope ["nails","bits","bit","letter"] ["nails"] (af gW):=by and_intros
theorem vy (D:Def K mg "bits_of" gW ["nails"]) (B:Bn mg) {t_LETTERS:Tok} (G_LETTERS:mg "LETTERS"=some (.str "abcdefghijklmnopqrstuvwxyz" t_LETTERS)):Own P w K mg base 1 "bits_of" ["nails"] (cM K bL):=by
 delta bL
 refine g6 (g:=j9) D sc_bits_of rfl rfl (by decide) fun f cdv A outer s H E hr=>?_
 delta j9
 exact(ao (aV 1 sc_bits_of.nd aw)
 (ao (aV 2 sc_bits_of.nd aw)
 (ao (jx PassesOwn.never (by rfl) (dF (BM (by rfl) (by exact G_LETTERS))) (by delta fK;exact(bK 3 sc_bits_of.nd))
 (by delta fL;exact(ao (dW (FK (ae 3) (ae 0))
 (aq (aV 1 sc_bits_of.nd (fw (ae 1) (ae 2))))
 bx)
 (aq (aV 2 sc_bits_of.nd (yK (ae 2) aw))))))
 (aq (aK (ae 1))))))
abbrev df:Stmt:=lg 25
theorem mH:FnScope ["sets"] ["sets"] (af df):=by and_intros
theorem mI {c T:Addr} (D:DefT K mg "in_told_order" df ["sets"] c T) (B:Bn mg):Own P w K mg base 1 "in_told_order" ["sets"] (cM K bn):=by
 delta bn
 refine Cb (g:=ft) D mH rfl rfl (by decide) fun f A outer s H E hr=>?_
 delta ft
 exact(aq (aK (zM rfl D.tp D.hd hr (by rfl) (by exact B.sorted) (by exact B.len) (ae 0) (by show(Str.ofString "in_told_order"++Str.ofString ".<locals>.")++Str.ofString "<lambda>"=_;decide+kernel))))
abbrev cR:Stmt:=lg 26
theorem sc_has_part_among:FnScope ["bits","parts","part"] ["bits","parts"] (af cR):=by and_intros
theorem lQ (D:Def K mg "has_part_among" cR ["bits","parts"]) (B:Bn mg):Own P w K mg base 1 "has_part_among" ["bits","parts"] (cM K aQ):=by
 delta aQ
 refine g6 (g:=dH) D sc_has_part_among rfl rfl (by decide) fun f cdv A outer s H E hr=>?_
 delta dH
 exact(ao (jx PassesOwn.never (by rfl) (dF (ae 1)) (by delta bP;exact(bK 2 sc_has_part_among.nd))
 (by delta bp;exact(aq (dW (vY hr.units (v_ (ae 2) (ae 0)) (ae 2))
 (aq (aK fI))
 bx))))
 (aq (aK fI)))
abbrev e8:Stmt:=lg 27
theorem sc_meets_each:FnScope ["bits","others","other"] ["bits","others"] (af e8):=by and_intros
theorem pN (D:Def K mg "meets_each" e8 ["bits","others"]) (B:Bn mg):Own P w K mg base 1 "meets_each" ["bits","others"] (cM K cf):=by
 delta cf
 refine g6 (g:=fM) D sc_meets_each rfl rfl (by decide) fun f cdv A outer s H E hr=>?_
 delta fM
 exact(ao (jx PassesOwn.never (by rfl) (dF (ae 1)) (by delta cZ;exact(bK 2 sc_meets_each.nd))
 (by delta cD;exact(aq (dW (vY hr.units (v_ (ae 2) (ae 0)) aw)
 (aq (aK fI))
 bx))))
 (aq (aK fI)))
abbrev gc:Stmt:=lg 28
theorem sc_least_of:FnScope ["sets","told","kept","nails","bits"] ["sets"] (af gc):=by and_intros
theorem t7 (D:Def K mg "least_of" gc ["sets"]) (B:Bn mg) (D_in_told_order:Own P w K mg base 1 "in_told_order" ["sets"] (cM K bn)) (D_bits_of:Own P w K mg base 1 "bits_of" ["nails"] (cM K bL)) (D_has_part_among:Own P w K mg base 1 "has_part_among" ["bits","parts"] (cM K aQ)):Own P w K mg base 2 "least_of" ["sets"] (cM K aT):=by
 delta aT
 refine g6 (g:=hZ) D sc_least_of rfl rfl (by decide) fun f cdv A outer s H E hr=>?_
 delta hZ
 exact(ao (aV 1 sc_least_of.nd (eQ DL.nil))
 (ao (aV 2 sc_least_of.nd (eQ DL.nil))
 (ao (jx PassesOwn.never (by rfl) (dF (aC D_in_told_order (hr.mono (by decide)) (by rfl) (ah (ae 0) ar))) (by delta du;exact(bK 3 sc_least_of.nd))
 (by delta cO;exact(ao (aV 4 sc_least_of.nd (aC D_bits_of (hr.mono (by decide)) (by rfl) (ah (ae 3) ar)))
 (aq (dW (dP (cY (aC D_has_part_among (hr.mono (by decide)) (by rfl) (ah (ae 4) (ah (ae 2) ar)))))
 (ao (lw (mj 2 (ae 4)))
 (aq (lw (mj 1 (ae 3)))))
 bx)))))
 (aq (aK (ae 1))))))
abbrev gf:Stmt:=lg 29
theorem sc_all_sets:FnScope ["nails","sets","nail"] ["nails"] (af gf):=by and_intros
theorem t8 (D:Def K mg "all_sets" gf ["nails"]) (B:Bn mg):Own P w K mg base 1 "all_sets" ["nails"] (cM K aU):=by
 delta aU
 refine g6 (g:=h9) D sc_all_sets rfl rfl (by decide) fun f cdv A outer s H E hr=>?_
 delta h9
 exact(ao (aV 1 sc_all_sets.nd (eQ (DL.cons fb rfl DL.nil)))
 (ao (jx PassesOwn.never (by rfl) (dF (ae 0)) (by delta d7;exact(bK 2 sc_all_sets.nd))
 (by delta d8;exact(aq (aV 1 sc_all_sets.nd (fw (ae 1) (g7 (N:=["chosen","nail"]) (js:=[none,some 2]) g9 (by rfl) (dF (ae 1)) (fun _ _ _ _=>(by delta gr;exact(bK 0 (show(["chosen","nail"]:List Str).Nodup by decide+kernel)))) (fun _ _ _ _=>(by delta fi;exact(fw (ae 0) (ae 1))))))))))
 (aq (aK (ae 1)))))
abbrev dS:Stmt:=lg 30
theorem kz:FnScope ["nails"] ["nails"] (af dS):=by and_intros
theorem pO (D:Def K mg "check_many" dS ["nails"]) (B:Bn mg) {t_MOST_NAILS:Tok} (G_MOST_NAILS:mg "MOST_NAILS"=some (.int 10 t_MOST_NAILS)) (XX:XF K mg):Own P w K mg base 1 "check_many" ["nails"] (cM K be):=by
 obtain⟨C_TooMany,m_TooMany,t_TooMany,z_TooMany⟩:=XX.c_TooMany
 delta be
 refine g6 (g:=gQ) D kz rfl rfl (by decide) fun f cdv A outer s H E hr=>?_
 delta gQ
 exact(aq (dW (v9 .gt (jv (by rfl) (by exact B.len) (ah (ae 0) ar)) (wc (by rfl) (by exact G_MOST_NAILS)))
 (aq jA)
 bx))
theorem oY (D:Def K mg "check_many" dS ["nails"]) (B:Bn mg) {t_MOST_NAILS:Tok} (G_MOST_NAILS:mg "MOST_NAILS"=some (.int 10 t_MOST_NAILS)) (XX:XF K mg):OwnR P w K mg base 1 "check_many" ["nails"] (jk K cg):=by
 obtain⟨C_TooMany,m_TooMany,t_TooMany,z_TooMany⟩:=XX.c_TooMany
 delta cg
 refine tI (mk:=true) (al:=true) (r:=fN) D kz rfl rfl (by decide) fun f cdv A outer s H E hr=>?_
 delta fN
 exact(eL (zz (v9 .gt (jv (by rfl) (by exact B.len) (ah (ae 0) ar)) (wc (by rfl) (by exact G_MOST_NAILS))) (eL (oK (by rfl) (by rfl) z_TooMany))))
abbrev d_:Stmt:=lg 31
theorem oZ:FnScope ["sets"] ["sets"] (af d_):=by and_intros
theorem o4 (D:Def K mg "nails_among" d_ ["sets"]) (B:Bn mg) (D_set_of:Own P w K mg base 2 "set_of" ["nails"] (cM K bv)):Own P w K mg base 3 "nails_among" ["sets"] (cM K aN):=by
 delta aN
 refine g6 (g:=fj) D oZ rfl rfl (by decide) fun f cdv A outer s H E hr=>?_
 delta fj
 exact(aq (aK (aC D_set_of (hr.mono (by decide)) (by rfl) (ah (iT (ae 0)) ar))))
abbrev dU:Stmt:=lg 32
theorem kA:FnScope ["family"] ["family"] (af dU):=by and_intros
theorem pP (D:Def K mg "least_sets" dU ["family"]) (B:Bn mg) (D_set_of:Own P w K mg base 2 "set_of" ["nails"] (cM K bv)) (D_least_of:Own P w K mg base 2 "least_of" ["sets"] (cM K aT)) (R_set_of:OwnR P w K mg base 2 "set_of" ["nails"] (jk K cu)):Own P w K mg base 3 "least_sets" ["family"] (cM K aF):=by
 delta aF
 refine g6 (g:=fO) D kA rfl rfl (by decide) fun f cdv A outer s H E hr=>?_
 delta fO
 exact(aq (aK (aC D_least_of (hr.mono (by decide)) (by rfl) (ah (g7 (N:=["nails"]) (js:=[none]) fV (by rfl) (dF (ae 0)) (fun _ _ _ _=>(by delta bg;exact(bK 0 (show(["nails"]:List Str).Nodup by decide+kernel)))) (fun _ _ _ _=>(by delta bh;exact(aC D_set_of (hr.mono (by decide)) (by rfl) (ah (ae 0) ar))))) ar))))
theorem o5 (D:Def K mg "least_sets" dU ["family"]) (B:Bn mg) (D_set_of:Own P w K mg base 2 "set_of" ["nails"] (cM K bv)) (D_least_of:Own P w K mg base 2 "least_of" ["sets"] (cM K aT)) (R_set_of:OwnR P w K mg base 2 "set_of" ["nails"] (jk K cu)):OwnR P w K mg base 3 "least_sets" ["family"] (jk K bI):=by
 delta bI
 refine tI (mk:=true) (al:=true) (r:=gR) D kA rfl rfl (by decide) fun f cdv A outer s H E hr=>?_
 delta gR
 exact(eL (rS (vj D_least_of (by rfl) (Co (N:=["nails"]) (js:=[none]) fV rfl rfl (by rfl) (dF (ae 0)) (fun _ _ _ _=>(bK 0 (show(["nails"]:List Str).Nodup by decide+kernel))) (fun _ _ _ _=>(aC D_set_of (hr.mono (by decide)) (by rfl) (ah (ae 0) ar))) (fun _ _ _ _ _=>(nQ R_set_of (hr.mono (by decide)) (by rfl) (ah (ae 0) ar)))))))
abbrev cU:Stmt:=lg 33
theorem sc_meeting_sets:FnScope ["family","others","nails"] ["family"] (af cU):=by and_intros
theorem nw (D:Def K mg "meeting_sets" cU ["family"]) (B:Bn mg) (D_least_sets:Own P w K mg base 3 "least_sets" ["family"] (cM K aF)) (D_bits_of:Own P w K mg base 1 "bits_of" ["nails"] (cM K bL)) (D_nails_among:Own P w K mg base 3 "nails_among" ["sets"] (cM K aN)) (D_check_many:Own P w K mg base 1 "check_many" ["nails"] (cM K be)) (D_all_sets:Own P w K mg base 1 "all_sets" ["nails"] (cM K aU)) (D_meets_each:Own P w K mg base 1 "meets_each" ["bits","others"] (cM K cf)) (D_least_of:Own P w K mg base 2 "least_of" ["sets"] (cM K aT)) (R_least_sets:OwnR P w K mg base 3 "least_sets" ["family"] (jk K bI)) (R_check_many:OwnR P w K mg base 1 "check_many" ["nails"] (jk K cg)):Own P w K mg base 4 "meeting_sets" ["family"] (cM K aG):=by
 delta aG
 refine g6 (g:=eS) D sc_meeting_sets rfl rfl (by decide) fun f cdv A outer s H E hr=>?_
 delta eS
 exact(ao (aV 1 sc_meeting_sets.nd (g7 (N:=["nails"]) (js:=[none]) fV (by rfl) (dF (aC D_least_sets (hr.mono (by decide)) (by rfl) (ah (ae 0) ar))) (fun _ _ _ _=>(by delta aR;exact(bK 0 (show(["nails"]:List Str).Nodup by decide+kernel)))) (fun _ _ _ _=>(by delta aS;exact(aC D_bits_of (hr.mono (by decide)) (by rfl) (ah (ae 0) ar))))))
 (ao (aV 2 sc_meeting_sets.nd (aC D_nails_among (hr.mono (by decide)) (by rfl) (ah (ae 0) ar)))
 (ao (lw (aC D_check_many (hr.mono (by decide)) (by rfl) (ah (ae 2) ar)))
 (aq (aK (aC D_least_of (hr.mono (by decide)) (by rfl) (ah (oj (N:=["chosen","others"]) (js:=[none,some 1]) g9 (by rfl) (dF (aC D_all_sets (hr.mono (by decide)) (by rfl) (ah (ae 2) ar))) (fun _ _ _ _=>(by delta cw;exact(bK 0 (show(["chosen","others"]:List Str).Nodup by decide+kernel)))) (fun _ _ _ _=>(by delta bM;exact(cY (aC D_meets_each (hr.mono (by decide)) (by rfl) (ah (aC D_bits_of (hr.mono (by decide)) (by rfl) (ah (ae 0) ar)) (ah (ae 1) ar)))))) (fun _ _ _ _=>(by delta cy;exact(ae 0)))) ar)))))))
theorem mJ (D:Def K mg "meeting_sets" cU ["family"]) (B:Bn mg) (D_least_sets:Own P w K mg base 3 "least_sets" ["family"] (cM K aF)) (D_bits_of:Own P w K mg base 1 "bits_of" ["nails"] (cM K bL)) (D_nails_among:Own P w K mg base 3 "nails_among" ["sets"] (cM K aN)) (D_check_many:Own P w K mg base 1 "check_many" ["nails"] (cM K be)) (D_all_sets:Own P w K mg base 1 "all_sets" ["nails"] (cM K aU)) (D_meets_each:Own P w K mg base 1 "meets_each" ["bits","others"] (cM K cf)) (D_least_of:Own P w K mg base 2 "least_of" ["sets"] (cM K aT)) (R_least_sets:OwnR P w K mg base 3 "least_sets" ["family"] (jk K bI)) (R_check_many:OwnR P w K mg base 1 "check_many" ["nails"] (jk K cg)):OwnR P w K mg base 4 "meeting_sets" ["family"] (jk K bA):=by
 delta bA
 refine tI (mk:=true) (al:=true) (r:=eT) D sc_meeting_sets rfl rfl (by decide) fun f cdv A outer s H E hr=>?_
 delta eT
 exact(Da (eL (Cl (Cp (N:=["nails"]) (js:=[none]) fV (nQ R_least_sets (hr.mono (by decide)) (by rfl) (ah (ae 0) ar)))))
 (rG (aV 1 sc_meeting_sets.nd (g7 (N:=["nails"]) (js:=[none]) fV (by rfl) (dF (aC D_least_sets (hr.mono (by decide)) (by rfl) (ah (ae 0) ar))) (fun _ _ _ _=>(by delta aR;exact(bK 0 (show(["nails"]:List Str).Nodup by decide+kernel)))) (fun _ _ _ _=>(by delta aS;exact(aC D_bits_of (hr.mono (by decide)) (by rfl) (ah (ae 0) ar))))))
 (rG (aV 2 sc_meeting_sets.nd (aC D_nails_among (hr.mono (by decide)) (by rfl) (ah (ae 0) ar)))
 (eL (wf R_check_many (hr.mono (by decide)) (by rfl) (ah (ae 2) ar))))))
abbrev cV:Stmt:=lg 35
theorem sc_falling_sets:FnScope ["cord","nails"] ["cord"] (af cV):=by and_intros
theorem ny (D:Def K mg "falling_sets" cV ["cord"]) (B:Bn mg) (D_nails_of:Own P w K mg base 1 "nails_of" ["cord"] (cM K cN)) (D_check_many:Own P w K mg base 1 "check_many" ["nails"] (cM K be)) (D_all_sets:Own P w K mg base 1 "all_sets" ["nails"] (cM K aU)) (D_falls_without:Own P w K mg base 4 "falls_without" ["cord","nails"] (cM K bF)) (D_least_of:Own P w K mg base 2 "least_of" ["sets"] (cM K aT)) (R_check_many:OwnR P w K mg base 1 "check_many" ["nails"] (jk K cg)):Own P w K mg base 5 "falling_sets" ["cord"] (cM K aM):=by
 delta aM
 refine g6 (g:=eU) D sc_falling_sets rfl rfl (by decide) fun f cdv A outer s H E hr=>?_
 delta eU
 exact(ao (aV 1 sc_falling_sets.nd (aC D_nails_of (hr.mono (by decide)) (by rfl) (ah (ae 0) ar)))
 (ao (lw (aC D_check_many (hr.mono (by decide)) (by rfl) (ah (ae 1) ar)))
 (aq (aK (aC D_least_of (hr.mono (by decide)) (by rfl) (ah (oj (N:=["chosen","cord"]) (js:=[none,some 0]) g9 (by rfl) (dF (aC D_all_sets (hr.mono (by decide)) (by rfl) (ah (ae 1) ar))) (fun _ _ _ _=>(by delta dl;exact(bK 0 (show(["chosen","cord"]:List Str).Nodup by decide+kernel)))) (fun _ _ _ _=>(by delta cA;exact(cY (aC D_falls_without (hr.mono (by decide)) (by rfl) (ah (ae 1) (ah (ae 0) ar)))))) (fun _ _ _ _=>(by delta dm;exact(ae 0)))) ar))))))
theorem mK (D:Def K mg "falling_sets" cV ["cord"]) (B:Bn mg) (D_nails_of:Own P w K mg base 1 "nails_of" ["cord"] (cM K cN)) (D_check_many:Own P w K mg base 1 "check_many" ["nails"] (cM K be)) (D_all_sets:Own P w K mg base 1 "all_sets" ["nails"] (cM K aU)) (D_falls_without:Own P w K mg base 4 "falls_without" ["cord","nails"] (cM K bF)) (D_least_of:Own P w K mg base 2 "least_of" ["sets"] (cM K aT)) (R_check_many:OwnR P w K mg base 1 "check_many" ["nails"] (jk K cg)):OwnR P w K mg base 5 "falling_sets" ["cord"] (jk K bV):=by
 delta bV
 refine tI (mk:=true) (al:=true) (r:=eW) D sc_falling_sets rfl rfl (by decide) fun f cdv A outer s H E hr=>?_
 delta eW
 exact(rG (aV 1 sc_falling_sets.nd (aC D_nails_of (hr.mono (by decide)) (by rfl) (ah (ae 0) ar)))
 (eL (wf R_check_many (hr.mono (by decide)) (by rfl) (ah (ae 1) ar))))
abbrev cW:Stmt:=lg 36
theorem je:FnScope ["cord"] ["cord"] (af cW):=by and_intros
theorem nD (D:Def K mg "holding_sets" cW ["cord"]) (B:Bn mg) (D_falling_sets:Own P w K mg base 5 "falling_sets" ["cord"] (cM K aM)) (D_meeting_sets:Own P w K mg base 4 "meeting_sets" ["family"] (cM K aG)) (R_falling_sets:OwnR P w K mg base 5 "falling_sets" ["cord"] (jk K bV)):Own P w K mg base 6 "holding_sets" ["cord"] (cM K c_):=by
 delta c_
 refine g6 (g:=dI) D je rfl rfl (by decide) fun f cdv A outer s H E hr=>?_
 delta dI
 exact(aq (aK (aC D_meeting_sets (hr.mono (by decide)) (by rfl) (ah (aC D_falling_sets (hr.mono (by decide)) (by rfl) (ah (ae 0) ar)) ar))))
theorem mL (D:Def K mg "holding_sets" cW ["cord"]) (B:Bn mg) (D_falling_sets:Own P w K mg base 5 "falling_sets" ["cord"] (cM K aM)) (D_meeting_sets:Own P w K mg base 4 "meeting_sets" ["family"] (cM K aG)) (R_falling_sets:OwnR P w K mg base 5 "falling_sets" ["cord"] (jk K bV)):OwnR P w K mg base 6 "holding_sets" ["cord"] (jk K dX):=by
 delta dX
 refine tI (mk:=true) (al:=true) (r:=ie) D je rfl rfl (by decide) fun f cdv A outer s H E hr=>?_
 delta ie
 exact(eL (rS (vj D_meeting_sets (by rfl) (nQ R_falling_sets (hr.mono (by decide)) (by rfl) (ah (ae 0) ar)))))
abbrev iN:Stmt:=lg 38
theorem xU:FnScope ["_law_script","_law_k"] ["_law_script","_law_k"] (af iN):=by and_intros
theorem xV (D:Def K mg "_law_at" iN ["_law_script","_law_k"]) (B:Bn mg):Own P w K mg base 1 "_law_at" ["_law_script","_law_k"] (cM K bw):=by
 delta bw
 refine g6 (g:=lO) D xU rfl rfl (by decide) fun f cdv A outer s H E hr=>?_
 delta lO
 exact(ao (dW (v9 .lt (ae 1) (jv (by rfl) (by exact B.len) (ah (ae 0) ar)))
 (aq (aK (ko (ae 0) (ae 1))))
 bx)
 (aq (aK aw)))
abbrev e9:Stmt:=lg 40
theorem sc_law_others:FnScope ["_law_e","_law_some"] ["_law_e"] (af e9):=by and_intros
theorem pQ (D:Def K mg "_law_others" e9 ["_law_e"]) (B:Bn mg) (XX:XF K mg):OwnH P w K mg base 1 "_law_others" ["_law_e"] (cM K gu):=by
 obtain⟨C_NoCord,m_NoCord,t_NoCord⟩:=XX.c_NoCord
 obtain⟨C_NoRule,m_NoRule,t_NoRule⟩:=XX.c_NoRule
 obtain⟨C_NoText,m_NoText,t_NoText⟩:=XX.c_NoText
 obtain⟨C_NoMove,m_NoMove,t_NoMove⟩:=XX.c_NoMove
 obtain⟨C_NoLine,m_NoLine,t_NoLine⟩:=XX.c_NoLine
 obtain⟨C_NoName,m_NoName,t_NoName⟩:=XX.c_NoName
 obtain⟨C_NoNumber,m_NoNumber,t_NoNumber⟩:=XX.c_NoNumber
 obtain⟨C_TooLong,m_TooLong,t_TooLong⟩:=XX.c_TooLong
 delta gu
 refine G2 (g:=i5) D sc_law_others rfl rfl (by decide) fun f cdv A outer s H E hr=>?_
 refine BodyOk.of ?_
 refine rR [0] (DL.cons (gk (by rfl) (by exact B.isinstance) (ae 0) (by rfl) (by exact m_NoCord) t_NoCord) rfl (DL.cons (gk (by rfl) (by exact B.isinstance) (ae 0) (by rfl) (by exact m_NoRule) t_NoRule) rfl (DL.cons (gk (by rfl) (by exact B.isinstance) (ae 0) (by rfl) (by exact m_NoText) t_NoText) rfl (DL.cons (gk (by rfl) (by exact B.isinstance) (ae 0) (by rfl) (by exact m_NoMove) t_NoMove) rfl DL.nil)))) fun e0 hd0=>?_
 refine rR [1,1] (DL.cons (gk (by rfl) (by exact B.isinstance) (ae 0) (by rfl) (by exact m_NoLine) t_NoLine) rfl (DL.cons (gk (by rfl) (by exact B.isinstance) (ae 0) (by rfl) (by exact m_NoName) t_NoName) rfl (DL.cons (gk (by rfl) (by exact B.isinstance) (ae 0) (by rfl) (by exact m_NoNumber) t_NoNumber) rfl (DL.cons (gk (by rfl) (by exact B.isinstance) (ae 0) (by rfl) (by exact m_TooLong) t_TooLong) rfl DL.nil)))) fun e1 hd1=>?_
 refine⟨?_⟩
 delta i5
 exact(ao (aV 1 sc_law_others.nd (eQ hd0))
 (ao (aV 1 sc_law_others.nd (fw (ae 1) (eQ hd1)))
 (aq (aK (ae 1)))))
abbrev ef:Stmt:=lg 41
theorem o6:FnScope ["_law_deed","_law_due","_law_e"] ["_law_deed","_law_due"] (af ef):=by and_intros
theorem o8 (D:Def K mg "_law_refused" ef ["_law_deed","_law_due"]) (B:Bn mg) (D_law_others:OwnH P w K mg base 1 "_law_others" ["_law_e"] (cM K gu)) (XX:XF K mg):OwnF P w K mg base 7 "_law_refused" ["NoNails","TooMany"] aH:=by
 obtain⟨C_HangError,m_HangError,e_HangError⟩:=XX.e_HangError
 obtain⟨v_ValueError,t_ValueError⟩:=XX.v_ValueError
 obtain⟨C_NoNails,m_NoNails,t_NoNails,z_NoNails⟩:=XX.c_NoNails
 obtain⟨C_TooMany,m_TooMany,t_TooMany,z_TooMany⟩:=XX.c_TooMany
 delta aH
 refine G5 (hs:=iB) D o6 rfl rfl (by exact m_HangError) e_HangError fun f cdv A outer s H hr ea oe C hx=>?_
 delta iB
 exact(ao (dW (BG (C5 (dP (cY (BX (by rfl) (by exact B.isinstance) (ae 2) (by rfl) (by exact v_ValueError) PyProof.Rows.Boot.«ValueError» t_ValueError))) (yR (EE fI (BY D_law_others ((Room.mark hr _).mono (by decide)) (by rfl) (ah (ae 2) ar))))))
 (aq (aK fI))
 bx)
 (aq (aK (kn (Room.mark hr _).units (eQ (DL.cons (gk (by rfl) (by exact B.isinstance) (ae 2) (by rfl) (by exact m_NoNails) t_NoNails) rfl (DL.cons (gk (by rfl) (by exact B.isinstance) (ae 2) (by rfl) (by exact m_TooMany) t_TooMany) rfl DL.nil))) (eQ (DL.cons (kn (Room.mark hr _).units (ae 1) aw) rfl (DL.cons (kn (Room.mark hr _).units (ae 1) aw) rfl DL.nil)))))))
abbrev gh:Stmt:=lg 42
theorem sc_law_sign:FnScope ["_law_cell","_law_some"] ["_law_cell"] (af gh):=by and_intros
theorem t9 (D:Def K mg "_law_sign" gh ["_law_cell"]) (B:Bn mg):Own P w K mg base 1 "_law_sign" ["_law_cell"] (cM K cm):=by
 delta cm
 refine g6 (g:=i6) D sc_law_sign rfl rfl (by decide) fun f cdv A outer s H E hr=>?_
 delta i6
 exact(ao (aV 1 sc_law_sign.nd fb)
 (aq (aK (ko (ae 1) (fc (ae 0) (jv (by rfl) (by exact B.len) (ah (ae 1) ar)))))))
abbrev gX:Stmt:=lg 43
theorem sc_law_bad:FnScope ["_law_cell","_law_text","_law_at_here"] ["_law_cell"] (af gX):=by and_intros
theorem vz (D:Def K mg "_law_bad" gX ["_law_cell"]) (B:Bn mg) (D_law_sign:Own P w K mg base 1 "_law_sign" ["_law_cell"] (cM K cm)):Own P w K mg base 2 "_law_bad" ["_law_cell"] (cM K fD):=by
 delta fD
 refine g6 (g:=eY) D sc_law_bad rfl rfl (by decide) fun f cdv A outer s H E hr=>?_
 refine BodyOk.of ?_
 refine Ck [1,0] (fun _=>(DL.cons DW rfl (DL.cons aw rfl (DL.cons fI rfl (DL.cons (eQ (DL.cons fb rfl DL.nil)) rfl (DL.cons (kQ (DL.cons fb rfl (DL.cons fb rfl DL.nil))) rfl (DL.cons aw rfl (DL.cons FX rfl DL.nil)))))))) fun e0 hd0=>?_
 refine⟨?_⟩
 delta eY
 exact(ao (dW (v9 .lt (fc (ae 0) aw) aw)
 (ao (aV 1 sc_law_bad.nd (kK fb (iR (fc (fk (ae 0) aw) aw)) iQ))
 (ao (aV 2 sc_law_bad.nd (fc (fk (ae 0) aw) (fw (jv (by rfl) (by exact B.len) (ah (ae 1) ar)) aw)))
 (aq (aK (fw (fw (kK (ae 1) iQ (iR (ae 2))) (aC D_law_sign (hr.mono (by decide)) (by rfl) (ah (fk (ae 0) aw) ar))) (kK (ae 1) (iR (ae 2)) iQ))))))
 bx)
 (aq (aK (ko (eQ (hd0 _)) (fc (fk (ae 0) aw) aw)))))
abbrev gi:Stmt:=lg 44
theorem sc_law_wide:FnScope ["_law_cell","_law_many","_law_letters"] ["_law_cell","_law_many"] (af gi):=by and_intros
theorem t_ (D:Def K mg "_law_wide" gi ["_law_cell","_law_many"]) (B:Bn mg):Own P w K mg base 1 "_law_wide" ["_law_cell","_law_many"] (cM K av):=by
 delta av
 refine g6 (g:=fZ) D sc_law_wide rfl rfl (by decide) fun f cdv A outer s H E hr=>?_
 delta fZ
 exact(ao (aV 2 sc_law_wide.nd fb)
 (aq (aK (g7 (N:=["_law_k","_law_letters","_law_cell"]) (js:=[none,some 2,some 0]) g9 (by rfl) (xh (by rfl) (by exact B.range) (ah (ae 1) ar)) (fun _ _ _ _=>(by delta d9;exact(bK 0 (show(["_law_k","_law_letters","_law_cell"]:List Str).Nodup by decide+kernel)))) (fun _ _ _ _=>(by delta dw;exact(ko (ae 1) (fc (fw (ae 2) (yK aw (ae 0))) aw))))))))
abbrev b_:Stmt:=lg 45
theorem sc_law_sets_refused:FnScope ["_law_bad_here","_law_cell","_law_family","_law_at_here","_law_some","_law_wide_here"] ["_law_bad_here","_law_cell"] (af b_):=by and_intros
theorem kh {c T:Addr} (D:DefT K mg "_law_sets_refused" b_ ["_law_bad_here","_law_cell"] c T) (B:Bn mg) (D_law_refused:OwnF P w K mg base 7 "_law_refused" ["NoNails","TooMany"] aH) (R_set_of:OwnR P w K mg base 2 "set_of" ["nails"] (jk K cu)) (R_least_sets:OwnR P w K mg base 3 "least_sets" ["family"] (jk K bI)) (R_meeting_sets:OwnR P w K mg base 4 "meeting_sets" ["family"] (jk K bA)) (D_law_wide:Own P w K mg base 1 "_law_wide" ["_law_cell","_law_many"] (cM K av)):Own P w K mg base 9 "_law_sets_refused" ["_law_bad_here","_law_cell"] (cM K cK):=by
 delta cK
 refine Cb (g:=b8) D sc_law_sets_refused rfl rfl (by decide) fun f A outer s H E hr=>?_
 delta b8
 exact(ao (dW (dP (cY (iZ (N:=["_law_bad_here"]) (js:=[0]) D_law_refused rfl D.tp D.hd (hr.mono (by decide)) (by rfl) R_set_of (by decide) gM (fun _ _ _ _ _ _=>(ah (ae 0) ar)))))
 (aq (aK fI))
 bx)
 (ao (aV 2 sc_law_sets_refused.nd (kK (eQ (DL.cons fb rfl (DL.cons fb rfl (DL.cons fb rfl (DL.cons fb rfl DL.nil))))) iQ (iR (fc (ae 1) aw))))
 (ao (aV 3 sc_law_sets_refused.nd (fc (fk (ae 1) aw) (fw (jv (by rfl) (by exact B.len) (ah (ae 2) ar)) aw)))
 (ao (aV 4 sc_law_sets_refused.nd (rC (rC (kK (ae 2) iQ (iR (ae 3))) (BQ (ah (ae 0) ar))) (kK (ae 2) (iR (ae 3)) iQ)))
 (ao (dW (dP (cY (iZ (N:=["_law_some"]) (js:=[4]) D_law_refused rfl D.tp D.hd (hr.mono (by decide)) (by rfl) R_least_sets (by decide) gM (fun _ _ _ _ _ _=>(ah (ae 0) ar)))))
 (aq (aK fI))
 bx)
 (ao (dW (dP (cY (iZ (N:=["_law_some"]) (js:=[4]) D_law_refused rfl D.tp D.hd (hr.mono (by decide)) (by rfl) R_meeting_sets (by decide) gM (fun _ _ _ _ _ _=>(ah (ae 0) ar)))))
 (aq (aK fI))
 bx)
 (ao (aV 5 sc_law_sets_refused.nd (rC (ae 4) (aC D_law_wide (hr.mono (by decide)) (by rfl) (ah (ae 1) (ah aw ar)))))
 (aq (aK (iZ (N:=["_law_wide_here"]) (js:=[5]) D_law_refused rfl D.tp D.hd (hr.mono (by decide)) (by rfl) R_meeting_sets (by decide) gM (fun _ _ _ _ _ _=>(ah (ae 0) ar))))))))))))
abbrev bR:Stmt:=lg 46
theorem sc_law_cords_refused:FnScope ["_law_bad_here","_law_cell","_law_cord","_law_kept"] ["_law_bad_here","_law_cell"] (af bR):=by and_intros
theorem jO {c T:Addr} (D:DefT K mg "_law_cords_refused" bR ["_law_bad_here","_law_cell"] c T) (B:Bn mg) (D_law_refused:OwnF P w K mg base 7 "_law_refused" ["NoNails","TooMany"] aH) (R_without:OwnR P w K mg base 3 "without" ["cord","nails"] (jk K eR)) (R_falls_without:OwnR P w K mg base 4 "falls_without" ["cord","nails"] (jk K dG)):Own P w K mg base 9 "_law_cords_refused" ["_law_bad_here","_law_cell"] (cM K cq):=by
 delta cq
 refine Cb (g:=bQ) D sc_law_cords_refused rfl rfl (by decide) fun f A outer s H E hr=>?_
 refine BodyOk.of ?_
 refine rR [0] (DL.cons (kQ (DL.cons (ko fb (fc (fk (ae 1) aw) aw)) rfl (DL.cons aw rfl DL.nil))) rfl (DL.cons (kQ (DL.cons fb rfl (DL.cons (fc (ae 1) aw) rfl DL.nil))) rfl (DL.cons (kQ (DL.cons (ko fb (fc (fk (ae 1) aw) aw)) rfl (DL.cons (yL aw) rfl DL.nil))) rfl DL.nil))) fun e0 hd0=>?_
 refine⟨?_⟩
 delta bQ
 exact(ao (aV 2 sc_law_cords_refused.nd (eQ hd0))
 (ao (aV 3 sc_law_cords_refused.nd (v6 (by rfl) (by exact B.list) (ae 2)))
 (ao (dW (dP (cY (iZ (N:=["_law_cord","_law_bad_here"]) (js:=[2,0]) D_law_refused rfl D.tp D.hd (hr.mono (by decide)) (by rfl) R_without (by decide) gM (fun _ _ _ _ _ _=>(ah (ae 0) (ah (ae 1) ar))))))
 (aq (aK fI))
 bx)
 (aq (aK (n_ (iZ (N:=["_law_cord","_law_bad_here"]) (js:=[2,0]) D_law_refused rfl D.tp D.hd (hr.mono (by decide)) (by rfl) R_falls_without (by decide) gM (fun _ _ _ _ _ _=>(ah (ae 0) (ah (ae 1) ar)))) (qZ (kn hr.units (ae 2) (ae 3)))))))))
abbrev cb:Stmt:=lg 47
theorem sc_law_many_refused:FnScope ["_law_cell","_law_more","_law_turns","_law_cord","_law_family","_law_ten"] ["_law_cell"] (af cb):=by and_intros
theorem ki {c T:Addr} (D:DefT K mg "_law_many_refused" cb ["_law_cell"] c T) (B:Bn mg) (D_law_wide:Own P w K mg base 1 "_law_wide" ["_law_cell","_law_many"] (cM K av)) (D_law_refused:OwnF P w K mg base 7 "_law_refused" ["NoNails","TooMany"] aH) (R_falling_sets:OwnR P w K mg base 5 "falling_sets" ["cord"] (jk K bV)) (R_holding_sets:OwnR P w K mg base 6 "holding_sets" ["cord"] (jk K dX)) (R_meeting_sets:OwnR P w K mg base 4 "meeting_sets" ["family"] (jk K bA)) (D_meeting_sets:Own P w K mg base 4 "meeting_sets" ["family"] (cM K aG)):Own P w K mg base 9 "_law_many_refused" ["_law_cell"] (cM K cL):=by
 delta cL
 refine Cb (g:=b9) D sc_law_many_refused rfl rfl (by decide) fun f A outer s H E hr=>?_
 delta b9
 exact(ao (aV 1 sc_law_many_refused.nd (fw aw (fc (ae 0) aw)))
 (ao (aV 2 sc_law_many_refused.nd (fc (fk (ae 0) aw) aw))
 (ao (aV 3 sc_law_many_refused.nd (g7 (N:=["_law_nail","_law_turns"]) (js:=[none,some 2]) g9 (by rfl) (dF (aC D_law_wide (hr.mono (by decide)) (by rfl) (ah (ae 0) (ah (ae 1) ar)))) (fun _ _ _ _=>(by delta cX;exact(bK 0 (show(["_law_nail","_law_turns"]:List Str).Nodup by decide+kernel)))) (fun _ _ _ _=>(by delta bZ;exact(kQ (DL.cons (ae 0) rfl (DL.cons (ae 1) rfl DL.nil)))))))
 (ao (dW (dP (cY (iZ (N:=["_law_cord"]) (js:=[3]) D_law_refused rfl D.tp D.hd (hr.mono (by decide)) (by rfl) R_falling_sets (by decide) gM (fun _ _ _ _ _ _=>(ah (ae 0) ar)))))
 (aq (aK fI))
 bx)
 (ao (dW (dP (cY (iZ (N:=["_law_cord"]) (js:=[3]) D_law_refused rfl D.tp D.hd (hr.mono (by decide)) (by rfl) R_holding_sets (by decide) gM (fun _ _ _ _ _ _=>(ah (ae 0) ar)))))
 (aq (aK fI))
 bx)
 (ao (aV 4 sc_law_many_refused.nd (fw (aC D_law_wide (hr.mono (by decide)) (by rfl) (ah (ae 0) (ah (D1 (ae 1) aw) ar))) (eQ (DL.cons (iT (aC D_law_wide (hr.mono (by decide)) (by rfl) (ah (ae 0) (ah (ae 1) ar)))) rfl DL.nil))))
 (ao (dW (dP (cY (iZ (N:=["_law_family"]) (js:=[4]) D_law_refused rfl D.tp D.hd (hr.mono (by decide)) (by rfl) R_meeting_sets (by decide) gM (fun _ _ _ _ _ _=>(ah (ae 0) ar)))))
 (aq (aK fI))
 bx)
 (ao (dW (C4 hr.units (fc (ae 0) aw) aw)
 (aq (aK fI))
 bx)
 (ao (aV 5 sc_law_many_refused.nd (aC D_law_wide (hr.mono (by decide)) (by rfl) (ah (ae 0) (ah aw ar))))
 (aq (aK (n_ (kn hr.units (aC D_meeting_sets (hr.mono (by decide)) (by rfl) (ah (v6 (by rfl) (by exact B.list) (ae 5)) ar)) (eQ (DL.cons (iT (jZ (by rfl) (by exact B.sorted) (ae 5))) rfl DL.nil))) (qZ (kn hr.units (aC D_meeting_sets (hr.mono (by decide)) (by rfl) (ah (eQ (DL.cons (iT (ae 5)) rfl DL.nil)) ar)) (jZ (by rfl) (by exact B.sorted) (ae 5))))))))))))))))
abbrev dL:Stmt:=lg 48
theorem sc_law_ten_told:FnScope ["_law_cell","_law_ten","_law_cord"] ["_law_cell"] (af dL):=by and_intros
theorem nE (D:Def K mg "_law_ten_told" dL ["_law_cell"]) (B:Bn mg) (D_law_wide:Own P w K mg base 1 "_law_wide" ["_law_cell","_law_many"] (cM K av)) (D_falling_sets:Own P w K mg base 5 "falling_sets" ["cord"] (cM K aM)) (D_holding_sets:Own P w K mg base 6 "holding_sets" ["cord"] (cM K c_)):Own P w K mg base 7 "_law_ten_told" ["_law_cell"] (cM K de):=by
 delta de
 refine g6 (g:=dJ) D sc_law_ten_told rfl rfl (by decide) fun f cdv A outer s H E hr=>?_
 delta dJ
 exact(ao (aV 1 sc_law_ten_told.nd (aC D_law_wide (hr.mono (by decide)) (by rfl) (ah (ae 0) (ah aw ar))))
 (ao (y0 2 sc_law_ten_told.nd (N:=["_law_nail","_law_cell"]) (js:=[none,some 0]) g9 (by rfl) (dF (ae 1)) (fun _ _ _ _=>(by delta eM;exact(bK 0 (show(["_law_nail","_law_cell"]:List Str).Nodup by decide+kernel)))) (fun _ _ _ _=>(by delta cB;exact(kQ (DL.cons (ae 0) rfl (DL.cons (fw aw (fc (ae 1) aw)) rfl DL.nil))))))
 (aq (aK (n_ (kn hr.units (aC D_falling_sets (hr.mono (by decide)) (by rfl) (ah (ae 2) ar)) (eQ (DL.cons (iT (jZ (by rfl) (by exact B.sorted) (ae 1))) rfl DL.nil))) (qZ (kn hr.units (aC D_holding_sets (hr.mono (by decide)) (by rfl) (ah (ae 2) ar)) (jZ (by rfl) (by exact B.sorted) (ae 1)))))))))
abbrev lR:Stmt:=lg 49
theorem sc_law:FnScope ["_law_script","_law_cell","_law_bad_here"] ["_law_script"] (af lR):=by and_intros
theorem EH {f0:Addr} {fd:FuncData} (D:Fun K "law" "law" lR f0 fd) (B:Bn mg) (D_law_at:Own P w K mg base 1 "_law_at" ["_law_script","_law_k"] (cM K bw)) (D_law_ten_told:Own P w K mg base 7 "_law_ten_told" ["_law_cell"] (cM K de)) (D_law_bad:Own P w K mg base 2 "_law_bad" ["_law_cell"] (cM K fD)) (D_law_sets_refused:Own P w K mg base 9 "_law_sets_refused" ["_law_bad_here","_law_cell"] (cM K cK)) (D_law_cords_refused:Own P w K mg base 9 "_law_cords_refused" ["_law_bad_here","_law_cell"] (cM K cq)) (D_law_many_refused:Own P w K mg base 9 "_law_many_refused" ["_law_cell"] (cM K cL)):FnOk P w K mg base nX 10 f0 fd ["_law_script"] (cM K mF):=by
 delta mF
 refine Hx (g:=qz) D sc_law rfl rfl (by decide) fun cdv A outer s H E hr=>?_
 delta qz
 exact(ao (dW (BG (yS (vY hr.units (fc (aC D_law_at (hr.mono (by decide)) (by rfl) (ah (ae 0) (ah aw ar))) aw) aw) (vZ (dP (cY (aC D_law_ten_told (hr.mono (by decide)) (by rfl) (ah (fk (aC D_law_at (hr.mono (by decide)) (by rfl) (ah (ae 0) (ah aw ar))) aw) ar)))))))
 (aq (aK fI))
 bx)
 (ao (jx PassesOwn.never (by rfl) (dF (fw (kK (ae 0) iQ (iR aw)) (eQ (DL.cons (fw (aC D_law_at (hr.mono (by decide)) (by rfl) (ah (ae 0) (ah aw ar))) aw) rfl DL.nil)))) (by delta jN;exact(bK 1 sc_law.nd))
 (by delta iL;exact(ao (aV 2 sc_law.nd (aC D_law_bad (hr.mono (by decide)) (by rfl) (ah (ae 1) ar)))
 (ao (dW (BG (C5 (dP (cY (aC D_law_sets_refused (hr.mono (by decide)) (by rfl) (ah (ae 2) (ah (fk (ae 1) aw) ar))))) (yR (dP (cY (aC D_law_cords_refused (hr.mono (by decide)) (by rfl) (ah (ae 2) (ah (fk (ae 1) aw) ar))))))))
 (aq (aK fI))
 bx)
 (aq (dW (dP (cY (aC D_law_many_refused (hr.mono (by decide)) (by rfl) (ah (fk (ae 1) aw) ar))))
 (aq (aK fI))
 bx))))))
 (aq (aK fI))))
end
end Nhk37
namespace Nhk37
open PySem L2 Nh PL
theorem j_(w:List Nat):(⟨w.toArray⟩:Str).length=w.length:=by show w.toArray.size=_;simp
theorem qA(ns:List Int)(k:Nat):bw [.list (ns.map .int),.int k]=some (.sh (.int (ns.getD k 0))):=by
 simp only[bw,fz,Z4,Z5,Nat.reduceAdd,dE,lO,aP,dD,gS,ag,aa,aX,dN,jh,Nat.sub_self,List.replicate,Z9,Z8,Z3,Z2,Sl.isBr,gA,ad,aj,Z1,gB,fu,look,Sl.val,g8,Cm.i,Cm.s,Z0,cJ,aO,lr,gZ,fR,bJ,pC,dQ,bG,bS]
 by_cases h:k < ns.length
 ·simp[h,lz,cT,dQ,bG]
 ·simp[h,List.getElem?_eq_none (Nat.le_of_not_lt h),cT,dQ,bG]
theorem aL{f g:dO}{E E1:List Sl}(h:f E=some (E1,.nx)):aP f g E=g E1:=by
 unfold aP
 rw[h]
 rfl
theorem jf{c:kG}{a b:dO}{E E1:List Sl}{r:Option (List Sl×Fl)}(h:c E=some (false,E1))(k:b E1=r):dD c a b E=r:=by
 unfold dD
 rw[h,←k]
 rfl
theorem mM{c:kG}{a b:dO}{E E1:List Sl}{r:Option (List Sl×Fl)}(h:c E=some (true,E1))(k:a E1=r):dD c a b E=r:=by
 unfold dD
 rw[h,←k]
 rfl
theorem lS{tg:gK}{elt:bH}{d r:PyData}{ds rs:List PyData}{E E1:List Sl}(t:tg d E=some E1)(el:elt E1=some (.sh r,E1))(h:dC tg cr elt ds E1=some rs):dC tg cr elt (d::ds) E=some (r::rs):=by
 rw[dC,t,Option.bind_some]
 simp only[cr,Z0,el,frz,h,Z1,if_true]
def bN(a:Nat):PyData:=.str ⟨#[a]⟩
theorem lT:∀w:List Nat,bE (w.map bN)=true
 |[]=>rfl
 |a::w=>by simp[bE,cT,lT w,bN]
def az(a:Nat):Prop:=97≤a∧a < 123
theorem i7{a:Nat}(h:az a):a∈List.range' 97 26:=List.mem_range'_1.mpr ⟨h.1,h.2⟩
theorem aE{c:List PyData→Option Sl}{g:ln}{E E1:List Sl}{ss:List Sl}{ds:List PyData}{r:Sl}(h:g E=some (ss,E1))(hl:cJ E1 ss=some ds)(hc:c ds=some r):ai c g E=some (r,E1):=by
 unfold ai
 rw[h,Option.bind_some]
 show(cJ E1 ss).bind _=_
 rw[hl,Option.bind_some,hc]
 rfl
theorem Ab{x:Int}{f:bH}{E:List Sl}{y:Int}{g:bH}(hf:g E=some (.sh (.int x),E))(h:f E=some (.sh (.int y),E))(ok:jr x y=true):ag sM false g f E=some (.sh (.int (x*y)),E):=by
 simp only[ag,sM,hf,h,Z0,look,Sl.val,ok,bS]
theorem Ac{x:Int}{f:bH}{E:List Sl}{y:Int}{g:bH}(hf:g E=some (.sh (.int x),E))(h:f E=some (.sh (.int y),E)):ag ck false g f E=some (.sh (.int (x+y)),E):=by
 simp only[ag,ck,hf,h,Z0,look,Sl.val,bS]
theorem mO{f:bH}{E E1:List Sl}{d:PyData}{i:Nat}(h:f E=some (.sh d,E1))(hi:i < E1.length):aD i f E=some (E1.set i (.sh d),.nx):=by
 unfold aD
 rw[h]
 simp only[Z0,PL.settle,hi,if_true]
theorem wv(w:List Nat)(a:Nat):(Builtin.Str.occurrences ⟨w.toArray⟩ ⟨#[a]⟩ 0 (⟨w.toArray⟩:Str).length 1).isEmpty= !decide (a∈w):=by
 have h:=PySem.StrLaws.found_one ⟨w.toArray⟩ a
 rw[List.toList_toArray]at h
 rw[←h,Bool.not_not]
def fP(a:Nat):Str:=⟨#[a]⟩
theorem Ad{a b:Nat}(h:fP a=fP b):a=b:=by
 simp[fP]at h;exact h
theorem Cr{a b:Nat}(h:a≤b):su (fP a) (fP b)=true:=by
 have:[a]≤[b]:=by
  rcases Nat.lt_or_ge a b with k |k
  ·exact List.le_of_lt (List.Lex.rel k)
  ·rw[Nat.le_antisymm h k];exact List.le_refl _
 exact decide_eq_true this
theorem Cs(ks:List Str)(x y:Str):y∈AN ks x↔y∈ks∨y=x:=by
 unfold AN
 split
 ·rename_i h
  exact⟨.inl,fun z=>z.elim id fun e=>e▸h⟩
 ·simp
theorem xW{ks:List Str}(h:ks.Nodup)(x:Str):(AN ks x).Nodup:=by
 unfold AN
 split
 ·exact h
 ·rename_i k
  rw[List.nodup_append]
  refine⟨h,by simp,fun a ha b hb=>?_⟩
  rw[Zab.mp hb]
  exact fun e=>k (e▸ha)
theorem rV:∀(ss ks:List Str),ks.Nodup→(ss.foldl AN ks).Nodup∧∀y,y∈ss.foldl AN ks↔y∈ks∨y∈ss
 |[],ks,h=>⟨h,fun y=>by simp⟩
 |s::ss,ks,h=>by
  obtain⟨a,b⟩:=rV ss (AN ks s) (xW h s)
  refine⟨a,fun y=>?_⟩
  rw[List.foldl_cons,b y,Cs,Zal,or_assoc]
theorem xX(ss:List Str):(jD ss).Nodup:=(rV ss [] List.nodup_nil).1
theorem Ct(ss:List Str)(y:Str):y∈jD ss↔y∈ss:=by
 rw[jD,(rV ss [] List.nodup_nil).2 y];simp
def au(w:List Nat):List Nat:=(List.range' 97 26).filter fun a=>decide (a∈w)
theorem inOrd_mem{w:List Nat}{a:Nat}:a∈au w↔a∈List.range' 97 26∧a∈w:=by simp[au]
theorem i8{α:Type}[DecidableEq α]:∀{l m:List α},l.Nodup→m.Nodup→(∀a,a∈l↔a∈m)→l.Perm m
 |[],m,_,_,h=>by
  have:m=[]:=by
   cases m with
   |nil=>rfl
   |cons b m=>exact absurd ((h b).mpr (by simp)) (by simp)
  rw[this]
 |a::l,m,hl,hm,h=>by
  have ha:a∈m:=(h a).mp (by simp)
  have hl':=List.nodup_cons.mp hl
  have p:=List.perm_cons_erase ha
  refine((i8 hl'.2 (hm.erase a) fun b=>?_).cons a).trans p.symm
  rw[List.Nodup.mem_erase_iff hm,←h b,Zal]
  exact⟨fun k=>⟨fun e=>hl'.1 (e▸k),.inr k⟩,fun k=>k.2.resolve_left k.1⟩
theorem kU{w:List Nat}(h:w.Nodup):(w.map fP).Nodup:=by
 rw[List.Nodup,List.pairwise_map]
 exact h.imp fun k e=>k (Ad e)
theorem m8(w:List Nat):(au w).Nodup:=List.Nodup.sublist List.filter_sublist (List.nodup_range' ..)
theorem lU(w:List Nat):((au w).map fP).Pairwise fun a b=>su a b=true:=by
 rw[List.pairwise_map]
 have h:(List.range' 97 26).Pairwise (· < ·):=List.pairwise_lt_range'
 exact(h.sublist List.filter_sublist).imp fun k=>Cr (kE k)
theorem o9{w:List Nat}(hw:∀a∈w,a∈List.range' 97 26):ja (jD (w.map fP))=(au w).map fP:=by
 refine(List.Perm.eq_of_pairwise (fun _ _ _ _ h k=>oq h k) (lU w) (List.pairwise_mergeSort jY mn _) ?_).symm
 refine List.Perm.trans ?_ (List.mergeSort_perm _ su).symm
 refine i8 (kU (m8 w)) (xX _) fun y=>?_
 rw[Ct,Zap,Zap]
 constructor
 ·rintro⟨a,ha,rfl⟩
  exact⟨a,(inOrd_mem.mp ha).2,rfl⟩
 ·rintro⟨a,ha,rfl⟩
  exact⟨a,inOrd_mem.mpr ⟨hw a ha,ha⟩,rfl⟩
theorem ww{w:List Nat}(hw:∀a∈w,a∈List.range' 97 26):(jD (w.map fP)).length≤26:=by
 rw[←mq,o9 hw,fH]
 refine kb (List.length_filter_le _ _) (by simp)
theorem Cu{a:Nat}(h:az a):decide ([a] < (Str.ofString "a").cps.toList)=false:=by
 have e:(Str.ofString "a").cps.toList=[97]:=by decide+kernel
 rw[e]
 refine decide_eq_false fun k=>?_
 have:a < 97:=by
  cases k with
  |rel k=>exact k
  |cons k=>cases k
 exact absurd this (Nat.not_lt.mpr h.1)
theorem Cv{a:Nat}(h:az a):decide ((Str.ofString "z").cps.toList < [a])=false:=by
 have e:(Str.ofString "z").cps.toList=[122]:=by decide+kernel
 rw[e]
 refine decide_eq_false fun k=>?_
 have:122 < a:=by
  cases k with
  |rel k=>exact k
  |cons k=>cases k
 exact absurd this (Nat.not_lt.mpr (Nat.le_of_lt_succ h.2))
theorem kW{a:Nat}(h:az a):bD [.str ⟨#[a]⟩]=some (.sh (.bool true)):=by
 have l:(⟨#[a]⟩:Str).length=1:=rfl
 have t:(#[a]:Array Nat).toList=[a]:=rfl
 have lo:=Cu h
 have hi:=Cv h
 simp only[bD,fz,Z4,Z5,dE,gT,aO,i_,iP,aa,aX,dN,jh,Nat.sub_self,List.replicate,Z9,Z8,Z2,look,Sl.val,oa,Ty.is,C7,Z0,Z1,ag,gA,ad,Sl.isBr,aj,gB,pC,jl,fu,kJ,Bool.or_false,g8,Cm.i,Cm.s,cJ,l,Nat.reduceLeDiff,Int.cast_ofNat_Int,fm,hi,lo,dQ,bG,cT,bS]
theorem qB(x0:Sl):∀(w:List Nat) (a:Sl),(∀y∈w,az y)→∃a',eK bT bU (w.map bN) [x0,a]=some ([x0,a'],.nx)
 |[],a,_=>⟨a,rfl⟩
 |y::w,a,h=>by
  have n:=kW (h y (io ..))
  have e:(bT (bN y) [x0,a]).bind bU=some ([x0,.sh (bN y)],.nx):=by
   simp only[bT,aW,Z4,Z5,Nat.reduceAdd,Nat.reduceLT,bN,Z7,Z6,bU,Z0,dD,cG,dh,ai,ad,aa,Z3,Z2,Sl.isBr,aj,Z1,cJ,look,Sl.val,n,ix,bJ,bS]
  obtain⟨a',ih⟩:=qB x0 w (.sh (bN y)) fun z hz=>h z (il _ hz)
  refine⟨a',?_⟩
  rw[dN,eK,e]
  exact ih
theorem wx(w:List Nat):iy ⟨w.toArray⟩=w.map bN:=by simp[iy,bN]
theorem F4(w:List Nat):lA ⟨w.toArray⟩=w.map fP:=by simp[lA,fP]
theorem o_:∀(w:List Nat),kt (w.map bN)=some (w.map fP)
 |[]=>rfl
 |a::w=>by simp only[dN,bN,kt];rw[o_ w];rfl
theorem pc(w:List Nat):gC ((w.map fP).map PyData.str)=some (w.map fP):=by
 induction w with
 |nil=>rfl
 |cons a w ih=>simp only[dN,gC,ih,Z1]
theorem m9:∀(w:List Nat),gC (w.map bN)=some (w.map fP)
 |[]=>rfl
 |a::w=>by simp only[dN,bN,gC];rw[m9 w];rfl
theorem rW(w:List Nat):((w.map fP).map (·.length)).sum+(w.map fP).length*(Str.ofString "").length=w.length:=by
 have:(Str.ofString "").length=0:=rfl
 rw[this,Nat.mul_zero,Nat.add_zero]
 induction w with
 |nil=>rfl
 |cons a w ih=>simp only[dN,List.sum_cons,ih,Z4];show 1+_=_;omega
theorem pe:∀(w:List Nat),Txt.join "" (w.map fP)=⟨w.toArray⟩:=by
 intro w
 show Builtin.Str.glued "" _=_
 rw[StrLaws.glued_eq_join]
 induction w with
 |nil=>rfl
 |cons a w ih=>
  cases w with
  |nil=>rfl
  |cons b w=>
   have e:Str.join "" ((a::b::w).map fP)=(⟨#[a]⟩:Str)++""++Str.join "" ((b::w).map fP):=rfl
   rw[e,ih]
   show(⟨(#[a]++(Str.ofString "").cps)++(b::w).toArray⟩:Str)=_
   rw[show(Str.ofString "").cps=#[] by decide+kernel]
   simp
theorem qC(w:List Nat):(au w).length≤1000000:=kb (List.length_filter_le _ _) (by simp)
theorem gj{w:List Nat}(h:∀y∈w,az y)(hl:w.length≤3900):bv [.str ⟨w.toArray⟩]=some (.sh (.str ⟨(au w).toArray⟩)):=by
 obtain⟨a,e⟩:=qB (.sh (.str ⟨w.toArray⟩)) w .no h
 have d:=o9 fun y hy=>i7 (h y hy)
 have d2:(w.map fP).length < 4000∧(jD (w.map fP)).length < 64:=⟨by rw[fH];omega,Nat.lt_of_le_of_lt (ww fun y hy=>i7 (h y hy)) (by decide)⟩
 have l:=rW (au w)
 have l2:=qC w
 simp only[bv,fz,Z4,Z5,dE,lM,aP,dD,cG,dh,iP,aa,aX,dN,jh,Nat.reduceSub,List.replicate,Z9,Z8,Z2,look,Sl.val,oa,Ty.is,C7,Z0,Z1,ix,bJ,ii,bt,frz,aO,e_,jE,oo,wx,e,F4,d2,and_self,d,pc,l,l2,pe,dQ,bG,cT,bS]
theorem xY:(Str.ofString "abcdefghijklmnopqrstuvwxyz")=(⟨(List.range' 97 26).toArray⟩:Str):=by decide+kernel
theorem EI(w:List Nat)(a:Nat):EW (.str ⟨#[a]⟩) (.str ⟨w.toArray⟩)=some (decide (a∈w)):=by
 show some (!(Builtin.Str.occurrences ⟨w.toArray⟩ ⟨#[a]⟩ 0 (⟨w.toArray⟩:Str).length 1).isEmpty)=_
 rw[wv,Bool.not_not]
theorem F8{E:List Sl}{f g:bH}{d1 d2:PyData}{b:Bool}(hf:f E=some (.sh d1,E))(hg:g E=some (.sh d2,E))(hd:EW d1 d2=some b):gS (ag (C8 false) false f g) E=some (b,E):=by
 simp only[gS,ag,C8,fu,hf,hg,hd,Z0,look,Sl.val,Z1,bS]
theorem Cw(w:List Nat)(n:Nat)(c:Nat)(hc:c=97+n)(p:Int)(hp:p=2 ^ n)(a:Sl):(fK (.str ⟨#[c]⟩) [.sh (.str ⟨w.toArray⟩),.sh (.int (NH.dR w n)),.sh (.int p),a]).bind fL=some ([.sh (.str ⟨w.toArray⟩),.sh (.int (NH.dR w (n+1))),.sh (.int (p*2)),.sh (.str ⟨#[c]⟩)],.nx):=by
 have i1:=EI w c
 have ok:jr p 2=true:=BN (by decide) (by decide)
 have b:(NH.dR w (n+1):Int)=if c∈w then (NH.dR w n:Int)+p else (NH.dR w n:Int):=by
  rw[NH.dR,hc,hp]
  split
  ·push_cast;rfl
  ·simp
 generalize (NH.dR w (n+1):Int)=B1 at b ⊢
 generalize (NH.dR w n:Int)=B0 at b ⊢
 have tg:fK (.str ⟨#[c]⟩) [.sh (.str ⟨w.toArray⟩),.sh (.int B0),.sh (.int p),a]=some [.sh (.str ⟨w.toArray⟩),.sh (.int B0),.sh (.int p),.sh (.str ⟨#[c]⟩)]:=rfl
 have t1:gS (ag (C8 false) false (aa 3) (aa 0)) [.sh (.str ⟨w.toArray⟩),.sh (.int B0),.sh (.int p),.sh (.str ⟨#[c]⟩)]=some (decide (c∈w),[.sh (.str ⟨w.toArray⟩),.sh (.int B0),.sh (.int p),.sh (.str ⟨#[c]⟩)]):=F8 rfl rfl i1
 have s2:∀x:Int,aD 2 (ag sM false (aa 2) (pC (.int 2))) [.sh (.str ⟨w.toArray⟩),.sh (.int x),.sh (.int p),.sh (.str ⟨#[c]⟩)]=some ([.sh (.str ⟨w.toArray⟩),.sh (.int x),.sh (.int (p*2)),.sh (.str ⟨#[c]⟩)],.nx):=fun x=>mO (Ab (g:=aa 2) (f:=pC (.int 2)) rfl rfl ok) (show 2 < 4 by decide)
 rw[tg,Option.bind_some,fL]
 by_cases h:c∈w
 ·rw[if_pos h]at b
  rw[decide_eq_true h]at t1
  have s1:aD 1 (ag ck false (aa 1) (aa 2)) [.sh (.str ⟨w.toArray⟩),.sh (.int B0),.sh (.int p),.sh (.str ⟨#[c]⟩)]=some ([.sh (.str ⟨w.toArray⟩),.sh (.int B1),.sh (.int p),.sh (.str ⟨#[c]⟩)],.nx):=by
   rw[b]
   exact mO (Ac (g:=aa 1) (f:=aa 2) rfl rfl) (show 1 < 4 by decide)
  rw[aL (mM t1 s1)]
  exact s2 B1
 ·rw[if_neg h]at b
  rw[decide_eq_false h]at t1
  rw[aL (jf (b:=bJ) t1 rfl),b]
  exact s2 B0
theorem wy(w:List Nat):∀(k n:Nat) (a:Sl),n+k=26→∃a' b',eK fK fL ((List.range' (97+n) k).map fun c=>.str ⟨#[c]⟩) [.sh (.str ⟨w.toArray⟩),.sh (.int (NH.dR w n)),.sh (.int (2 ^ n)),a]=some ([.sh (.str ⟨w.toArray⟩),.sh (.int (NH.bY w)),b',a'],.nx)
 | 0,n,a,h=>⟨a,.sh (.int (2 ^ n)),by rw[show n=26 by omega];rfl⟩
 |k+1,n,a,h=>by
  have s:=Cw w n (97+n) rfl (2 ^ n) rfl a
  rw[(Int.pow_succ 2 n).symm]at s
  obtain⟨a',b',e⟩:=wy w k (n+1) (.sh (.str ⟨#[97+n]⟩)) (by omega)
  refine⟨a',b',?_⟩
  rw[List.range'_succ,dN,eK,s]
  exact e
theorem kX(w:List Nat):bL [.str ⟨w.toArray⟩]=some (.sh (.int (NH.bY w))):=by
 obtain⟨a,b,e⟩:=wy w 26 0 .no rfl
 have z0:((NH.dR w 0:Nat):Int)=0:=rfl
 have z1:(2:Int) ^ 0=1:=rfl
 rw[z0,z1,Nat.add_zero]at e
 have sg:iy (⟨(List.range' 97 26).toArray⟩:Str)=(List.range' 97 26).map fun c=>.str ⟨#[c]⟩:=by simp[iy]
 simp only[bL,fz,Z4,Z5,dE,j9,aP,aD,pC,aX,dN,jh,Nat.reduceSub,List.replicate,Z9,Z8,PL.settle,frz,frzAll,Z0,Nat.reduceAdd,Nat.reduceLT,Z7,Z6,ii,bt,xY,sg,aO,aa,e,Z3,Z2,dQ,bG,cT,bS]
theorem vA(a b:Nat):Builtin.bitAnd (a:Int) (b:Int)=((a &&& b:Nat):Int):=by
 simp[Builtin.bitAnd]
theorem Ae{E:List Sl}{f g:bH}{x y:Nat}(hf:f E=some (.sh (.int x),E))(hg:g E=some (.sh (.int y),E)):ag uT false f g E=some (.sh (.int ((x &&& y:Nat):Int)),E):=by
 simp only[ag,uT,fu,mi,hf,hg,Z0,look,Sl.val,Z1,vA,bS]
theorem Af{E:List Sl}{f g:bH}{x y:Int}(hf:f E=some (.sh (.int x),E))(hg:g E=some (.sh (.int y),E)):gS (ag jl false f g) E=some (decide (x=y),E):=by
 simp only[gS,ag,jl,fu,hf,hg,Z0,look,Sl.val,Z1,fm,bS]
def lV(n:Nat):PyData:=.int n
theorem wz(x1:Sl)(b:Nat):∀(ps:List Nat) (a:Sl),∃E,eK bP bp (ps.map lV) [.sh (.int b),x1,a]=some (E,if ps.any (fun p=>decide (p &&& b=p))then .rt (.sh (.bool true))else .nx)
 |[],a=>⟨_,rfl⟩
 |p::ps,a=>by
  have t1:gS (ag jl false (ag uT false (aa 2) (aa 0)) (aa 2)) [.sh (.int b),x1,.sh (.int p)]=some (decide (((p &&& b:Nat):Int)=(p:Int)),[.sh (.int b),x1,.sh (.int p)]):=Af (Ae (f:=aa 2) (g:=aa 0) (x:=p) (y:=b) rfl rfl) rfl
  have tg:bP (lV p) [.sh (.int b),x1,a]=some [.sh (.int b),x1,.sh (.int p)]:=rfl
  by_cases h:p &&& b=p
  ·rw[decide_eq_true (by rw[h])]at t1
   refine⟨[.sh (.int b),x1,.sh (.int p)],?_⟩
   have st:(bP (lV p) [.sh (.int b),x1,a]).bind bp=some ([.sh (.int b),x1,.sh (.int p)],.rt (.sh (.bool true))):=by
    rw[tg,Option.bind_some,bp]
    exact mM t1 rfl
   rw[dN,eK,st,List.any_cons,decide_eq_true h]
   rfl
  ·rw[decide_eq_false (by omega)]at t1
   obtain⟨E,ih⟩:=wz x1 b ps (.sh (.int p))
   refine⟨E,?_⟩
   have st:(bP (lV p) [.sh (.int b),x1,a]).bind bp=some ([.sh (.int b),x1,.sh (.int p)],.nx):=by
    rw[tg,Option.bind_some,bp]
    exact jf t1 rfl
   rw[dN,eK,st,List.any_cons,decide_eq_false h,Bool.false_or]
   exact ih
theorem Cy(b:Nat)(ps:List Nat):aQ [.int b,.list (ps.map lV)]=some (.sh (.bool (ps.any fun p=>decide (p &&& b=p)))):=by
 obtain⟨E,e⟩:=wz (.sh (.list (ps.map lV))) b ps .no
 cases h:ps.any (fun p=>decide (p &&& b=p))with
 |true=>
  rw[h]at e
  simp only[if_true]at e
  simp only[aQ,fz,Z4,Z5,Nat.reduceAdd,dE,dH,aP,ii,bt,aa,aX,dN,jh,Nat.reduceSub,List.replicate,Z9,Z8,Z3,Z2,frz,Z0,e,aO,pC,dQ,bG,cT,bS]
 |false=>
  rw[h]at e
  simp only[bS]at e
  simp only[aQ,fz,Z4,Z5,Nat.reduceAdd,dE,dH,aP,ii,bt,aa,aX,dN,jh,Nat.reduceSub,List.replicate,Z9,Z8,Z3,Z2,frz,Z0,e,aO,pC,dQ,bG,cT,bS]
theorem ua(x1:Sl)(b:Nat):∀(ps:List Nat) (a:Sl),∃E,eK cZ cD (ps.map lV) [.sh (.int b),x1,a]=some (E,if ps.all (fun p=> !decide (p &&& b=0))then .nx else .rt (.sh (.bool false)))
 |[],a=>⟨_,rfl⟩
 |p::ps,a=>by
  have t1:gS (ag jl false (ag uT false (aa 2) (aa 0)) (pC (.int 0))) [.sh (.int b),x1,.sh (.int p)]=some (decide (((p &&& b:Nat):Int)=0),[.sh (.int b),x1,.sh (.int p)]):=Af (Ae (f:=aa 2) (g:=aa 0) (x:=p) (y:=b) rfl rfl) rfl
  have tg:cZ (lV p) [.sh (.int b),x1,a]=some [.sh (.int b),x1,.sh (.int p)]:=rfl
  by_cases h:p &&& b=0
  ·rw[decide_eq_true (by rw[h];rfl)]at t1
   refine⟨[.sh (.int b),x1,.sh (.int p)],?_⟩
   have st:(cZ (lV p) [.sh (.int b),x1,a]).bind cD=some ([.sh (.int b),x1,.sh (.int p)],.rt (.sh (.bool false))):=by
    rw[tg,Option.bind_some,cD]
    exact mM t1 rfl
   rw[dN,eK,st,List.all_cons,decide_eq_true h]
   rfl
  ·rw[decide_eq_false (by omega)]at t1
   obtain⟨E,ih⟩:=ua x1 b ps (.sh (.int p))
   refine⟨E,?_⟩
   have st:(cZ (lV p) [.sh (.int b),x1,a]).bind cD=some ([.sh (.int b),x1,.sh (.int p)],.nx):=by
    rw[tg,Option.bind_some,cD]
    exact jf t1 rfl
   rw[dN,eK,st,List.all_cons,decide_eq_false h,Bool.not_false,Bool.true_and]
   exact ih
theorem Ag(b:Nat)(ps:List Nat):cf [.int b,.list (ps.map lV)]=some (.sh (.bool (ps.all fun p=> !decide (p &&& b=0)))):=by
 obtain⟨E,e⟩:=ua (.sh (.list (ps.map lV))) b ps .no
 cases h:ps.all (fun p=> !decide (p &&& b=0))with
 |true=>
  rw[h]at e
  simp only[if_true]at e
  simp only[cf,fz,Z4,Z5,Nat.reduceAdd,dE,fM,aP,ii,bt,aa,aX,dN,jh,Nat.reduceSub,List.replicate,Z9,Z8,Z3,Z2,frz,Z0,e,aO,pC,dQ,bG,cT,bS]
 |false=>
  rw[h]at e
  simp only[bS]at e
  simp only[cf,fz,Z4,Z5,Nat.reduceAdd,dE,fM,aP,ii,bt,aa,aX,dN,jh,Nat.reduceSub,List.replicate,Z9,Z8,Z3,Z2,frz,Z0,e,aO,pC,dQ,bG,cT,bS]
def am(w:List Nat):PyData:=.str ⟨w.toArray⟩
def Cz(w:List Nat):List (List Nat):=w.foldl (fun acc a=>acc++acc.map (· ++[a])) [[]]
theorem dM(l:List (List Nat)):bE (l.map am)=true:=by
 induction l with
 |nil=>rfl
 |cons a l ih=>show(cT (am a)&&bE (l.map am))=true;rw[ih];rfl
theorem EJ(u v:List Nat):(⟨u.toArray⟩:Str)++(⟨v.toArray⟩:Str)=⟨(u++v).toArray⟩:=by
 show(⟨u.toArray++v.toArray⟩:Str)=_
 simp
theorem pf(w:List Nat):(⟨w.toArray⟩:Str).length=w.length:=by show w.toArray.size=_;simp
theorem Ah(a:Nat):∀(l:List (List Nat)) (x0:Sl),(∀u∈l,u.length≤1000)→dC gr cr fi (l.map am) [x0,.sh (.str ⟨#[a]⟩)]=some ((l.map (· ++[a])).map am)
 |[],x0,_=>rfl
 |u::l,x0,h=>by
  have hu:=h u (io ..)
  have ap:(⟨u.toArray⟩:Str)++(⟨#[a]⟩:Str)=⟨(u++[a]).toArray⟩:=EJ u [a]
  have l1:(⟨#[a]⟩:Str).length=1:=rfl
  have lb:u.length+1≤1000000:=by omega
  have e:gr (am u) [x0,.sh (.str ⟨#[a]⟩)]=some [.sh (.str ⟨u.toArray⟩),.sh (.str ⟨#[a]⟩)]:=rfl
  have e2:fi [.sh (.str ⟨u.toArray⟩),.sh (.str ⟨#[a]⟩)]=some (.sh (.str ⟨(u++[a]).toArray⟩),[.sh (.str ⟨u.toArray⟩),.sh (.str ⟨#[a]⟩)]):=by
   simp only[fi,ag,aa,Z2,Sl.isBr,ck,look,Sl.val,gZ,fR,Z0,Z3,pf,l1,lb,ap,bS]
  rw[dN,dC,e,Option.bind_some]
  simp only[cr,frz,Z0,e2,Ah a l _ fun v hv=>h v (il _ hv),Z1,if_true,dN]
  rfl
theorem Ai(x0:Sl):∀(w:List Nat) (l:List (List Nat)) (n:Nat) (a:Sl),l.length*2 ^ w.length≤100000→n+w.length≤1000→(∀u∈l,u.length≤n)→∃a',eK d7 d8 (w.map fun c=>.str ⟨#[c]⟩) [x0,.ow (l.map am),a]=some ([x0,.ow ((w.foldl (fun acc a=>acc++acc.map (· ++[a])) l).map am),a'],.nx)
 |[],l,n,a,_,_,_=>⟨a,rfl⟩
 |c::w,l,n,a,hb,hn,hl=>by
  have p1:1≤2 ^ w.length:=Nat.one_le_two_pow
  have lle:l.length≤100000:=by
   rw[List.length_cons,Nat.pow_succ]at hb
   have:l.length*1≤l.length*(2 ^ w.length*2):=Nat.mul_le_mul_left _ (by omega)
   omega
  have k:=Ah c l .no fun u hu=>by have:=hl u hu;simp at hn;omega
  have lb:(l.map (· ++[c])).length≤1000000:=by simp;omega
  have lb2:l.length+(l.map (· ++[c])).length≤1000000:=by simp;omega
  have fl:=dM (l.map (· ++[c]))
  have lb3:l.length≤1000000:=by omega
  have lb4:l.length+l.length≤1000000:=by omega
  have st:(d7 (.str ⟨#[c]⟩) [x0,.ow (l.map am),a]).bind d8=some ([x0,.ow ((l++l.map (· ++[c])).map am),.sh (.str ⟨#[c]⟩)],.nx):=by
   simp only[d7,aW,Z4,Z5,Nat.reduceAdd,Nat.reduceLT,Z7,Z6,d8,Z0,aD,ag,aa,Z3,Z2,Sl.isBr,ce,bt,frz,iS,dN,sR,jh,ck,look,Sl.val,gZ,fR,k,fl,fH,lb3,Option.any_some,lb4,←List.map_append,PL.settle,frzAll,bS]
  obtain⟨a',e⟩:=Ai x0 w (l++l.map (· ++[c])) (n+1) (.sh (.str ⟨#[c]⟩)) (by
   rw[vH,fH,←Nat.two_mul,Nat.mul_assoc]
   rw[List.length_cons,Nat.pow_succ]at hb
   have e1:2*(l.length*2 ^ w.length)=l.length*(2 ^ w.length*2):=by rw[Nat.mul_comm 2,Nat.mul_assoc]
   omega) (by simp at hn;omega) (fun u hu=>by
    rcases Zan.mp hu with q |q
    ·have:=hl u q;omega
    ·obtain⟨v,hv,rfl⟩:=Zap.mp q
     have:=hl v hv
     simp;omega)
  refine⟨a',?_⟩
  rw[dN,eK,st]
  exact e
theorem Aj(w:List Nat)(hw:w.length≤10):aU [.str ⟨w.toArray⟩]=some (.ow ((Cz w).map am)):=by
 have p:2 ^ w.length≤2 ^ 10:=Nat.pow_le_pow_right (by decide) hw
 obtain⟨a,e⟩:=Ai (.sh (.str ⟨w.toArray⟩)) w [[]] 0 .no (by simp;omega) (by omega) (fun u hu=>by rw[Zab.mp hu];simp)
 have e0:[PyData.str ""]=([[]]:List (List Nat)).map am:=rfl
 have sg:iy (⟨w.toArray⟩:Str)=w.map fun c=>.str ⟨#[c]⟩:=by simp[iy]
 have fl:=dM (Cz w)
 unfold Cz at fl ⊢
 have s1:aD 1 (cQ (ak (pC (.str "")) bi)) [.sh (.str ⟨w.toArray⟩),.no,.no]=some ([.sh (.str ⟨w.toArray⟩),.ow (([[]]:List (List Nat)).map am),.no],.nx):=by
  rw[←e0]
  simp only[aD,cQ,ak,pC,frz,bi,Z1,Z0,Z4,Z5,Nat.reduceLeDiff,PL.settle,frzAll,Nat.reduceAdd,Nat.reduceLT,Z7,Z6,bS]
 have it:∀y:Sl,bt (aa 0) [.sh (.str ⟨w.toArray⟩),y,.no]=some (w.map fun c=>.str ⟨#[c]⟩,[.sh (.str ⟨w.toArray⟩),y,.no]):=fun y=>by
  simp only[bt,aa,Z2,frz,Z0,sg]
 have fo:ii (bt (aa 0)) d7 d8 [.sh (.str ⟨w.toArray⟩),.ow (([[]]:List (List Nat)).map am),.no]=some ([.sh (.str ⟨w.toArray⟩),.ow ((w.foldl (fun acc a=>acc++acc.map (· ++[a])) [[]]).map am),a],.nx):=by
  unfold ii
  rw[it,Option.bind_some]
  exact e
 have g:aU [.str ⟨w.toArray⟩]=(h9 [.sh (.str ⟨w.toArray⟩),.no,.no]).bind fun a=>match a.2 with |.rt r=>dQ r |.nx=>some (.sh .none) |_=>none:=rfl
 rw[g,h9,aL s1,aL fo]
 simp only[aO,aa,Z3,Z2,Z0,Z7,Z6,Z1,dQ,bG,fl,if_true]
open NhFam in
theorem wA(w:List Nat):NhSG.iX ⟨w.toArray⟩=key w:=by
 show(((⟨w.toArray⟩:Str).length:Int),w.toArray.toList)=((w.length:Int),w)
 rw[pf]
theorem ub:∀F:List (List Nat),kt (F.map am)=some (F.map fun w=>(⟨w.toArray⟩:Str))
 |[]=>rfl
 |w::F=>by
  show(kt (F.map am)).map ((⟨w.toArray⟩:Str):: ·)=_
  rw[ub F]
  rfl
theorem Ak(F:List (List Nat)):NhSG.kw (F.map fun w=>(⟨w.toArray⟩:Str))=(NhFam.jc F).map fun w=>(⟨w.toArray⟩:Str):=by
 refine(NhSG.qm ((List.mergeSort_perm F _).map _) ?_).symm
 rw[List.pairwise_map]
 exact(NhFam.qx F).imp fun {a b} h=>by
  unfold NhSG.sx
  rw[wA,wA]
  have:NhSG.gL (NhFam.key b) (NhFam.key a)=false:=by simpa[NhFam.kf]using h
  rw[this];rfl
theorem CA(F:List (List Nat)):(F.map fun w=>(⟨w.toArray⟩:Str)).map PyData.str=F.map am:=by rw[List.map_map];rfl
def Fit(F:List (List Nat)):Prop:=F.length < 1100∧∀w∈F,NH.oN w∧w.length≤1000
theorem Fit.chk{F:List (List Nat)}(h:Fit F):(decide ((F.map fun w=>(⟨w.toArray⟩:Str)).length < 65536)&&(F.map fun w=>(⟨w.toArray⟩:Str)).all fun z=>decide (z.length≤1000))=true:=by
 simp only[sy,decide_eq_true_eq,Zbg,fH]
 refine⟨Nat.lt_trans h.1 (by decide),fun z hz=>?_⟩
 obtain⟨w,hw,rfl⟩:=Zap.mp hz
 rw[pf]
 exact(h.2 w hw).2
theorem pR{F:List (List Nat)}(h:Fit F):bn [.list (F.map am)]=some (.ow ((NhFam.jc F).map am)):=by
 have a:rQ (aa 0) [.sh (.list (F.map am))]=some (.ow ((NhFam.jc F).map am),[.sh (.list (F.map am))]):=by
  unfold rQ
  simp only[aa,Z2,Z0,look,Sl.val,ub,h.chk,if_true,Ak,CA]
 have fl:=dM (NhFam.jc F)
 simp only[bn,ft,fz,dE,aX,aO,a,Z0,Z1,dQ,bG,fl,Z4,Z5,Nat.sub_self,List.replicate,dN,jh,qJ,Nat.reduceAdd,bS]
def bO(w:List Nat):PyData:=lV (NH.bY w)
theorem qD(l:List (List Nat)):bE (l.map bO)=true:=by
 induction l with
 |nil=>rfl
 |cons a l ih=>show(cT (bO a)&&bE (l.map bO))=true;rw[ih];rfl
theorem uc(K:List (List Nat)):K.map bO=(K.map NH.bY).map lV:=by rw[List.map_map];rfl
theorem Al{K:List (List Nat)}(h:∀k∈K,NH.oN k)(w:List Nat):(K.map NH.bY).any (fun p=>decide (p &&& NH.bY w=p))=K.any (fun k=>decide (NhFam.le k w)):=by
 induction K with
 |nil=>rfl
 |cons k K ih=>
  rw[dN,List.any_cons,List.any_cons,ih fun k hk=>h k (il _ hk)]
  congr 1
  exact decide_eq_decide.mpr (NH.xP (h k (io ..)))
theorem ph(x0:Sl):∀(S K:List (List Nat)) (a b:Sl),(∀w∈S,NH.oN w)→(∀w∈K,NH.oN w)→K.length+S.length≤2000→∃y a' b',eK du cO (S.map am) [x0,.ow (K.map am),.ow (K.map bO),a,b]=some ([x0,.ow ((NhFam.jK K S).map am),y,a',b'],.nx)
 |[],K,a,b,_,_,_=>⟨_,a,b,rfl⟩
 |w::S,K,a,b,hS,hK,hl=>by
  have tg:du (am w) [x0,.ow (K.map am),.ow (K.map bO),a,b]=some [x0,.ow (K.map am),.ow (K.map bO),.sh (am w),b]:=rfl
  have c1:ai bL (ad false (aa 3) aj) [x0,.ow (K.map am),.ow (K.map bO),.sh (am w),b]=some (.sh (.int (NH.bY w)),[x0,.ow (K.map am),.ow (K.map bO),.sh (am w),b]):=aE (ss:=[.sh (am w)]) rfl rfl (kX w)
  have s1:aD 4 (ai bL (ad false (aa 3) aj)) [x0,.ow (K.map am),.ow (K.map bO),.sh (am w),b]=some ([x0,.ow (K.map am),.ow (K.map bO),.sh (am w),.sh (.int (NH.bY w))],.nx):=mO c1 (show 4 < 5 by decide)
  have pp:=Cy (NH.bY w) (K.map NH.bY)
  rw[←uc,Al hK w]at pp
  have c2:dh (ai aQ (ad false (aa 4) (ad false (aa 2) aj))) [x0,.ow (K.map am),.ow (K.map bO),.sh (am w),.sh (.int (NH.bY w))]=some (K.any (fun k=>decide (NhFam.le k w)),[x0,.ow (K.map am),.ow (K.map bO),.sh (am w),.sh (.int (NH.bY w))]):=by
   have c3:ai aQ (ad false (aa 4) (ad false (aa 2) aj)) [x0,.ow (K.map am),.ow (K.map bO),.sh (am w),.sh (.int (NH.bY w))]=some (.sh (.bool (K.any (fun k=>decide (NhFam.le k w)))),[x0,.ow (K.map am),.ow (K.map bO),.sh (am w),.sh (.int (NH.bY w))]):=aE (ss:=[.sh (.int (NH.bY w)),.al 2]) rfl rfl pp
   simp only[dh,c3,Z0,look,Sl.val,ix,Z1]
  by_cases h:K.any (fun k=>decide (NhFam.le k w))=true
  ·rw[h]at c2
   have st:(du (am w) [x0,.ow (K.map am),.ow (K.map bO),a,b]).bind cO=some ([x0,.ow (K.map am),.ow (K.map bO),.sh (am w),.sh (.int (NH.bY w))],.nx):=by
    rw[tg,Option.bind_some,cO,aL s1]
    refine jf ?_ rfl
    simp only[cG,c2,Z1,Bool.not_true]
   obtain⟨y,a',b',e⟩:=ph x0 S K (.sh (am w)) (.sh (.int (NH.bY w))) (fun v hv=>hS v (il _ hv)) hK (by simp at hl;omega)
   refine⟨y,a',b',?_⟩
   rw[dN,eK,st,NhFam.jK,if_pos h]
   exact e
  ·have h':K.any (fun k=>decide (NhFam.le k w))=false:=by simpa using h
   rw[h']at c2
   have b1:K.length < 1000000:=by simp at hl;omega
   have st:(du (am w) [x0,.ow (K.map am),.ow (K.map bO),a,b]).bind cO=some ([x0,.ow ((K++[w]).map am),.ow ((K++[w]).map bO),.sh (am w),.sh (.int (NH.bY w))],.nx):=by
    rw[tg,Option.bind_some,cO,aL s1]
    have n2:cG (dh (ai aQ (ad false (aa 4) (ad false (aa 2) aj)))) [x0,.ow (K.map am),.ow (K.map bO),.sh (am w),.sh (.int (NH.bY w))]=some (true,[x0,.ow (K.map am),.ow (K.map bO),.sh (am w),.sh (.int (NH.bY w))]):=by
     simp only[cG,c2,Z1,Bool.not_false]
    refine mM n2 ?_
    have a1:fJ (eJ 2 (aa 4)) [x0,.ow (K.map am),.ow (K.map bO),.sh (am w),.sh (.int (NH.bY w))]=some ([x0,.ow (K.map am),.ow ((K++[w]).map bO),.sh (am w),.sh (.int (NH.bY w))],.nx):=by
     simp only[fJ,eJ,Z3,Z2,aa,frz,Z0,fH,b1,Z7,Z6,if_true,Z1,List.map_append,dN,jh]
     rfl
    rw[aL a1]
    simp only[fJ,eJ,List.map_append,dN,jh,Z3,Z2,aa,frz,Z0,fH,b1,Z7,Z6,if_true,Z1]
   obtain⟨y,a',b',e⟩:=ph x0 S (K++[w]) (.sh (am w)) (.sh (.int (NH.bY w))) (fun v hv=>hS v (il _ hv)) (fun v hv=>by
    rcases Zan.mp hv with q |q
    ·exact hK v q
    ·rw[Zab.mp q];exact hS w (io ..)) (by simp at hl ⊢;omega)
   refine⟨y,a',b',?_⟩
   rw[dN,eK,st,NhFam.jK,if_neg h]
   exact e
theorem iu{F:List (List Nat)}(h:Fit F):aT [.list (F.map am)]=some (.ow ((NhFam.aJ F).map am)):=by
 obtain⟨y,a,b,e⟩:=ph (.sh (.list (F.map am))) (NhFam.jc F) [] .no .no (fun w hw=>(h.2 w (NhFam.sortT_mem.mp hw)).1) (fun w hw=>by cases hw) (by
  have:(NhFam.jc F).length=F.length:=(List.mergeSort_perm F _).length_eq
  have:=h.1
  simp;omega)
 have it:bt (ai bn (ad false (aa 0) aj)) [.sh (.list (F.map am)),.ow [],.ow [],.no,.no]=some ((NhFam.jc F).map am,[.sh (.list (F.map am)),.ow [],.ow [],.no,.no]):=by
  have c:ai bn (ad false (aa 0) aj) [.sh (.list (F.map am)),.ow [],.ow [],.no,.no]=some (.ow ((NhFam.jc F).map am),[.sh (.list (F.map am)),.ow [],.ow [],.no,.no]):=aE (ss:=[.sh (.list (F.map am))]) rfl rfl (pR h)
  unfold bt
  rw[c]
  rfl
 have fo:ii (bt (ai bn (ad false (aa 0) aj))) du cO [.sh (.list (F.map am)),.ow [],.ow [],.no,.no]=some ([.sh (.list (F.map am)),.ow ((NhFam.aJ F).map am),y,a,b],.nx):=by
  unfold ii
  rw[it,Option.bind_some]
  exact e
 have g:aT [.list (F.map am)]=(hZ [.sh (.list (F.map am)),.no,.no,.no,.no]).bind fun a=>match a.2 with |.rt r=>dQ r |.nx=>some (.sh .none) |_=>none:=rfl
 have s1:aD 1 (cQ bi) [.sh (.list (F.map am)),.no,.no,.no,.no]=some ([.sh (.list (F.map am)),.ow [],.no,.no,.no],.nx):=by simp only[aD,cQ,bi,Z0,Z5,Nat.reduceLeDiff,PL.settle,frz,frzAll,Z4,Nat.reduceAdd,Nat.reduceLT,Z7,Z6,bS]
 have s2:aD 2 (cQ bi) [.sh (.list (F.map am)),.ow [],.no,.no,.no]=some ([.sh (.list (F.map am)),.ow [],.ow [],.no,.no],.nx):=by simp only[aD,cQ,bi,Z0,Z5,Nat.reduceLeDiff,PL.settle,frz,frzAll,Z4,Nat.reduceAdd,Nat.reduceLT,Z7,Z6,bS]
 have fl:=dM (NhFam.aJ F)
 rw[g,hZ,aL s1,aL s2,aL fo]
 simp only[aO,aa,Z3,Z2,Z0,Z7,Z6,Z1,dQ,bG,fl,if_true]
def AQ(w:List Nat):Str:=⟨w.toArray⟩
theorem cS(w:List Nat):NhFam.Srt (au w):=List.Pairwise.sublist List.filter_sublist (List.pairwise_lt_range' ..)
theorem Am{w:List Nat}(h:NhFam.Srt w)(a:∀y∈w,az y):au w=w:=
 (cS w).ext h (fun x hx=>(inOrd_mem.mp hx).2) fun x hx=>inOrd_mem.mpr ⟨i7 (a x hx),hx⟩
theorem wB:∀F:List (List Nat),Txt.join "" (F.map AQ)=⟨F.flatten.toArray⟩:=by
 intro F
 show Builtin.Str.glued "" _=_
 rw[StrLaws.glued_eq_join]
 induction F with
 |nil=>rfl
 |cons a F ih=>
  cases F with
  |nil=>simp[Str.join,AQ]
  |cons b F=>
   have e:Str.join "" ((a::b::F).map AQ)=(AQ a)++""++Str.join "" ((b::F).map AQ):=rfl
   rw[e,ih]
   show(⟨(a.toArray++(Str.ofString "").cps)++(b::F).flatten.toArray⟩:Str)=_
   rw[show(Str.ofString "").cps=#[] by decide+kernel]
   simp
theorem mP:∀F:List (List Nat),gC (F.map am)=some (F.map AQ)
 |[]=>rfl
 |w::F=>by
  show(gC (F.map am)).map (AQ w:: ·)=_
  rw[mP F]
  rfl
theorem ud:∀F:List (List Nat),((F.map AQ).map (·.length)).sum+(F.map AQ).length*(Str.ofString "").length=F.flatten.length:=by
 intro F
 have:(Str.ofString "").length=0:=rfl
 rw[this,Nat.mul_zero,Nat.add_zero]
 induction F with
 |nil=>rfl
 |cons a F ih=>
  simp only[dN,List.sum_cons,ih,List.flatten_cons,vH]
  rw[show(AQ a).length=a.length from pf a]
theorem kB{w:List Nat}(h:w.length≤10):be [am w]=some (.sh .none):=by
 have l:=pf w
 have lt:¬((w.length:Int) > 10):=by omega
 have lb:w.length≤1000000:=by omega
 simp only[be,fz,am,Z4,Z5,dE,gQ,dD,gS,ag,gA,ad,aa,aX,dN,jh,Nat.sub_self,List.replicate,Z9,Z8,Z2,Sl.isBr,aj,Z1,Z0,gB,cJ,look,Sl.val,l,lb,pC,fu,g8,Cm.i,Cm.s,lt,bJ,dQ,bG,bS]
theorem iv{js:List (Option Nat)}{it:lq}{tg:gK}{c:kG}{el:bH}{E E1:List Sl}{ds rs:List PyData}(hi:it E=some (ds,E1))(hl:dC tg c el ds (iS js E1)=some rs)(fl:bE rs=true)(ll:rs.length≤1000000):ce js it tg c el E=some (.ow rs,E1):=by
 simp only[ce,hi,Z0,hl,fl,ll,and_self,Z1,Bool.and_self,bS]
theorem mQ:∀(F:List (List Nat)) (x:Sl),dC aR cr aS (F.map am) [x]=some (F.map bO)
 |[],x=>rfl
 |v::F,x=>by
  have t:aR (am v) [x]=some [.sh (am v)]:=rfl
  have e:aS [.sh (am v)]=some (.sh (.int (NH.bY v)),[.sh (am v)]):=aE (ss:=[.sh (am v)]) rfl rfl (kX v)
  exact lS t e (mQ F _)
theorem An{K:List (List Nat)}(h:∀k∈K,NH.oN k)(w:List Nat):(K.map NH.bY).all (fun p=> !decide (p &&& NH.bY w=0))=NhFam.jd K w:=by
 unfold NhFam.jd
 induction K with
 |nil=>rfl
 |cons k K ih=>
  rw[dN,List.all_cons,List.all_cons,ih fun k hk=>h k (il _ hk)]
  congr 1
  exact congrArg not (decide_eq_decide.mpr (NH.xQ (h k (io ..))))
theorem Dg{tg:gK}{cond:kG}{elt:bH}{d r:PyData}{ds rs:List PyData}{E E1:List Sl}{b:Bool}(t:tg d E=some E1)(c:cond E1=some (b,E1))(el:elt E1=some (.sh r,E1))(h:dC tg cond elt ds E1=some rs):dC tg cond elt (d::ds) E=some (if b then r::rs else rs):=by
 cases b with
 |true=>simp only[dC,t,c,el,h,Z0,Z1,if_true,frz]
 |false=>simp only[dC,t,c,h,Z0,bS]
theorem wC{K:List (List Nat)}(hK:∀k∈K,NH.oN k):∀(F:List (List Nat)) (x:Sl),dC cw bM cy (F.map am) [x,.sh (.list (K.map bO))]=some ((F.filter (NhFam.jd K)).map am)
 |[],x=>rfl
 |v::F,x=>by
  have t:cw (am v) [x,.sh (.list (K.map bO))]=some [.sh (am v),.sh (.list (K.map bO))]:=rfl
  have el:cy [.sh (am v),.sh (.list (K.map bO))]=some (.sh (am v),[.sh (am v),.sh (.list (K.map bO))]):=rfl
  have c1:ai bL (ad false (aa 0) aj) [.sh (am v),.sh (.list (K.map bO))]=some (.sh (.int (NH.bY v)),[.sh (am v),.sh (.list (K.map bO))]):=aE (ss:=[.sh (am v)]) rfl rfl (kX v)
  have pm:=Ag (NH.bY v) (K.map NH.bY)
  rw[←uc,An hK v]at pm
  have c2:ai cf (ad false (ai bL (ad false (aa 0) aj)) (ad false (aa 1) aj)) [.sh (am v),.sh (.list (K.map bO))]=some (.sh (.bool (NhFam.jd K v)),[.sh (am v),.sh (.list (K.map bO))]):=aE (ss:=[.sh (.int (NH.bY v)),.sh (.list (K.map bO))]) (by simp only[ad,aj,c1,Z0,Z1,aa,Z3,Z2,bS]) rfl pm
  have c:bM [.sh (am v),.sh (.list (K.map bO))]=some (NhFam.jd K v,[.sh (am v),.sh (.list (K.map bO))]):=by
   unfold bM
   simp only[dh,c2,Z0,look,Sl.val,ix,Z1]
  rw[dN,Dg t c el (wC hK F _),List.filter_cons]
  split <;> rfl
theorem wD{f:bH}{E E1:List Sl}{r:Sl}(h:f E=some (r,E1)):fJ f E=some (E1,.nx):=by
 simp only[fJ,h,Z1]
theorem kY{f:bH}{E E1:List Sl}{ds:List PyData}{i:Nat}(h:f E=some (.ow ds,E1))(hi:i < E1.length):aD i f E=some (E1.set i (.ow ds),.nx):=by
 simp only[aD,h,Z0,PL.settle,Sl.isAl,hi,Z1,bS]
theorem xZ{w:List Nat}(n:w.Nodup)(a:∀y∈w,az y):ja (w.map fP)=(au w).map fP:=by
 refine(List.Perm.eq_of_pairwise (fun _ _ _ _ h k=>oq h k) (lU w) (List.pairwise_mergeSort jY mn _) ?_).symm
 refine List.Perm.trans ?_ (List.mergeSort_perm _ _).symm
 refine i8 (kU (m8 w)) (kU n) fun y=>?_
 constructor
 ·intro h
  obtain⟨a,ha,rfl⟩:=Zap.mp h
  exact Zap.mpr ⟨a,(inOrd_mem.mp ha).2,rfl⟩
 ·intro h
  obtain⟨b,hb,rfl⟩:=Zap.mp h
  exact Zap.mpr ⟨b,inOrd_mem.mpr ⟨i7 (a b hb),hb⟩,rfl⟩
structure Uni (U:List Nat):Prop where
 srt:NhFam.Srt U
 lt:∀a∈U,az a
 len:U.length≤10
theorem Uni.ltrs{U w:List Nat}(h:Uni U)(s:NhFam.Sub U w):NH.oN w:=fun a ha=>by
 have:=h.lt a (s.2 a ha)
 exact⟨this.1,this.2⟩
theorem Uni.azw{U w:List Nat}(h:Uni U)(s:NhFam.Sub U w):∀a∈w,az a:=fun a ha=>h.lt a (s.2 a ha)
theorem Uni.short{U w:List Nat}(h:Uni U)(s:NhFam.Sub U w):w.length≤10:=kb (NhFam.dZ s.1 h.srt s.2).length_le h.len
theorem Uni.small{U V:List Nat}(u:Uni U)(hV:NhFam.Sub U V):Uni V:=⟨hV.1,u.azw hV,u.short hV⟩
structure Wrt (U:List Nat) (W:List (List Nat)):Prop where
 sub:∀t∈W,NhFam.le t U
 tl:∀t∈W,t.length≤20
 len:W.length≤190
def cP(W:List (List Nat)):List (List Nat):=W.map au
theorem CB{U t:List Nat}(u:Uni U)(h:NhFam.le t U):NhFam.Sub U (au t):=⟨cS t,fun x hx=>h x (inOrd_mem.mp hx).2⟩
theorem Wrt.sets{U:List Nat}{W:List (List Nat)}(u:Uni U)(h:Wrt U W):∀v∈cP W,NhFam.Sub U v:=fun v hv=>by
 obtain⟨t,ht,rfl⟩:=Zap.mp hv
 exact CB u (h.sub t ht)
theorem Ao{U:List Nat}{F:List (List Nat)}(u:Uni U)(h:∀v∈F,NhFam.Sub U v)(hl:F.length < 1100):Fit F:=⟨hl,fun w hw=>⟨u.ltrs (h w hw),by have:=u.short (h w hw);omega⟩⟩
theorem kC{U:List Nat}(u:Uni U):∀(W:List (List Nat)) (x:Sl),(∀t∈W,NhFam.le t U)→(∀t∈W,t.length≤20)→dC bg cr bh (W.map am) [x]=some ((cP W).map am)
 |[],x,_,_=>rfl
 |v::W,x,h,hl=>by
  have t:bg (am v) [x]=some [.sh (am v)]:=rfl
  have so:=gj (w:=v) (fun y hy=>u.lt y (h v (io ..) y hy)) (by have:=hl v (io ..);omega)
  have e:bh [.sh (am v)]=some (.sh (am (au v)),[.sh (am v)]):=aE (ss:=[.sh (am v)]) rfl rfl so
  exact lS t e (kC u W _ (fun v hv=>h v (il _ hv)) fun v hv=>hl v (il _ hv))
theorem pS{U:List Nat}{W:List (List Nat)}(u:Uni U)(h:Wrt U W):aF [.list (W.map am)]=some (.ow ((NhFam.aJ (cP W)).map am)):=by
 have ls:(cP W).length=W.length:=by unfold cP;rw[fH]
 have hl:=h.len
 have c:ce [none] (bt (aa 0)) bg cr bh [.sh (.list (W.map am))]=some (.ow ((cP W).map am),[.sh (.list (W.map am))]):=iv rfl (kC u W _ h.sub h.tl) (dM _) (by rw[fH];omega)
 have b:ai aT (ad false (ce [none] (bt (aa 0)) bg cr bh) aj) [.sh (.list (W.map am))]=some (.ow ((NhFam.aJ (cP W)).map am),[.sh (.list (W.map am))]):=aE (ss:=[.ow ((cP W).map am)]) (by simp only[ad,aj,c,Z0,Z1,bS]) rfl (iu (Ao u (h.sets u) (by omega)))
 have fl:=dM (NhFam.aJ (cP W))
 simp only[aF,fO,fz,dE,aX,aO,b,Z0,Z1,dQ,bG,fl,Z4,Z5,Nat.sub_self,List.replicate,dN,jh,qJ,Nat.reduceAdd,bS]
theorem ue{W:List (List Nat)}(h:∀t∈W,t.length≤20):W.flatten.length≤W.length*20:=by
 induction W with
 |nil=>simp
 |cons a W ih=>
  have:=ih fun v hv=>h v (il _ hv)
  have:=h a (io ..)
  simp only[List.flatten_cons,vH,Z4]
  omega
theorem pi{U:List Nat}{W:List (List Nat)}(u:Uni U)(h:Wrt U W):aN [.list (W.map am)]=some (.sh (am (au W.flatten))):=by
 have fl:=ue h.tl
 have hl:=h.len
 have e:=gj (w:=W.flatten) (fun y hy=>by
  obtain⟨v,hv,hy⟩:=List.mem_flatten.mp hy
  exact u.lt y (h.sub v hv y hy)) (by omega)
 have l:=ud W
 have l2:W.flatten.length≤1000000:=by omega
 have j:=wB W
 have a:e_ "" (aa 0) [.sh (.list (W.map am))]=some (.sh (.str ⟨W.flatten.toArray⟩),[.sh (.list (W.map am))]):=by
  simp only[e_,iP,oo,aa,Z2,Z0,look,Sl.val,mP,l,l2,if_true,Z1,j]
 have b:ai bv (ad false (e_ "" (aa 0)) aj) [.sh (.list (W.map am))]=some (.sh (am (au W.flatten)),[.sh (.list (W.map am))]):=aE (ss:=[.sh (.str ⟨W.flatten.toArray⟩)]) (by simp only[ad,aj,a,Z0,Z1,bS]) rfl e
 have fx:cT (am (au W.flatten))=true:=rfl
 simp only[aN,fj,fz,dE,aX,aO,b,Z0,Z1,dQ,bG,fx,Z4,Z5,Nat.sub_self,List.replicate,dN,jh,qJ,Nat.reduceAdd,bS]
theorem qE{U:List Nat}{W:List (List Nat)}(u:Uni U)(h:Wrt U W):NhFam.Sub U (au W.flatten):=⟨cS _,fun x hx=>by
 obtain⟨v,hv,hx⟩:=List.mem_flatten.mp (inOrd_mem.mp hx).2
 exact h.sub v hv x hx⟩
theorem x6{U:List Nat}{W:List (List Nat)}(u:Uni U)(h:Wrt U W):∀v∈cP W,NhFam.le v (au W.flatten):=fun v hv x hx=>by
 obtain⟨t,ht,rfl⟩:=Zap.mp hv
 obtain⟨a,b⟩:=inOrd_mem.mp hx
 exact inOrd_mem.mpr ⟨a,List.mem_flatten.mpr ⟨t,ht,b⟩⟩
theorem qF(L M:List (List Nat))(hn:L.Nodup)(hm:∀w∈L,w∈M):L.length≤M.length:=by
 induction L generalizing M with
 |nil=>simp
 |cons a L ih=>
  have hn':=List.nodup_cons.mp hn
  have:=ih (M.erase a) hn'.2 fun w hw=>(List.mem_erase_of_ne (a:=w) (b:=a) (fun e=>hn'.1 (by rw[←e];exact hw))).mpr (hm w (il _ hw))
  rw[List.length_erase_of_mem (hm a (io ..))]at this
  have pos:0 < M.length:=List.length_pos_of_mem (hm a (io ..))
  simp only[Z4]
  omega
theorem Ap{U:List Nat}{L:List (List Nat)}{f:List Nat→Prop}(u:Uni U)(t:NhFam.Told U L f):L.length≤1024:=by
 have:=qF L (NhFam.hW U) (NhFam.j5 t.srt) fun w hw=>(NhFam.jL u.srt).mpr (t.sub w hw)
 rw[NhFam.oQ]at this
 have p:2 ^ U.length≤2 ^ 10:=Nat.pow_le_pow_right (by decide) u.len
 omega
theorem CC{V:List Nat}(u:Uni V)(p:List Nat→Bool):((NhFam.hW V).filter p).length≤1024:=by
 have:=List.length_filter_le p (NhFam.hW V)
 rw[NhFam.oQ]at this
 have q:2 ^ V.length≤2 ^ 10:=Nat.pow_le_pow_right (by decide) u.len
 omega
theorem jg{U:List Nat}{W:List (List Nat)}(u:Uni U)(h:Wrt U W):aG [.list (W.map am)]=some (.ow ((NhFam.tY (cP W) (au W.flatten)).map am)):=by
 have tl:=NhFam.ir (h.sets u)
 have lL:=Ap u tl
 have hV:=qE u h
 have uV:=u.small hV
 have hK:∀k∈NhFam.aJ (cP W),NH.oN k:=fun k hk=>u.ltrs (tl.sub k hk)
 have cnt:=CC uV (NhFam.jd (NhFam.aJ (cP W)))
 generalize eV:au W.flatten=V at hV uV cnt
 generalize eF:cP W=F at tl lL hK cnt
 have pl:=pS u h
 rw[eF]at pl
 have pn:=pi u h
 rw[eV]at pn
 have c1:ai aF (ad false (aa 0) aj) [.sh (.list (W.map am)),.no,.no]=some (.ow ((NhFam.aJ F).map am),[.sh (.list (W.map am)),.no,.no]):=aE (ss:=[.sh (.list (W.map am))]) rfl rfl pl
 have i1:bt (ai aF (ad false (aa 0) aj)) [.sh (.list (W.map am)),.no,.no]=some ((NhFam.aJ F).map am,[.sh (.list (W.map am)),.no,.no]):=by
  unfold bt
  rw[c1]
  rfl
 have p1:ce [none] (bt (ai aF (ad false (aa 0) aj))) aR cr aS [.sh (.list (W.map am)),.no,.no]=some (.ow ((NhFam.aJ F).map bO),[.sh (.list (W.map am)),.no,.no]):=iv i1 (mQ _ _) (qD _) (by rw[fH];omega)
 have s1:aD 1 (ce [none] (bt (ai aF (ad false (aa 0) aj))) aR cr aS) [.sh (.list (W.map am)),.no,.no]=some ([.sh (.list (W.map am)),.ow ((NhFam.aJ F).map bO),.no],.nx):=kY p1 (show 1 < 3 by decide)
 have c2:ai aN (ad false (aa 0) aj) [.sh (.list (W.map am)),.ow ((NhFam.aJ F).map bO),.no]=some (.sh (am V),[.sh (.list (W.map am)),.ow ((NhFam.aJ F).map bO),.no]):=aE (ss:=[.sh (.list (W.map am))]) rfl rfl pn
 have s2:aD 2 (ai aN (ad false (aa 0) aj)) [.sh (.list (W.map am)),.ow ((NhFam.aJ F).map bO),.no]=some ([.sh (.list (W.map am)),.ow ((NhFam.aJ F).map bO),.sh (am V)],.nx):=mO c2 (show 2 < 3 by decide)
 have c3:fJ (ai be (ad false (aa 2) aj)) [.sh (.list (W.map am)),.ow ((NhFam.aJ F).map bO),.sh (am V)]=some ([.sh (.list (W.map am)),.ow ((NhFam.aJ F).map bO),.sh (am V)],.nx):=wD (aE (ss:=[.sh (am V)]) rfl rfl (kB (by have:=uV.len;omega)))
 have c4:ai aU (ad false (aa 2) aj) [.sh (.list (W.map am)),.ow ((NhFam.aJ F).map bO),.sh (am V)]=some (.ow ((Cz V).map am),[.sh (.list (W.map am)),.ow ((NhFam.aJ F).map bO),.sh (am V)]):=aE (ss:=[.sh (am V)]) rfl rfl (Aj _ (by have:=uV.len;omega))
 have i4:bt (ai aU (ad false (aa 2) aj)) [.sh (.list (W.map am)),.ow ((NhFam.aJ F).map bO),.sh (am V)]=some ((NhFam.hW V).map am,[.sh (.list (W.map am)),.ow ((NhFam.aJ F).map bO),.sh (am V)]):=by
  unfold bt
  rw[c4]
  rfl
 have fit:Fit ((NhFam.hW V).filter (NhFam.jd (NhFam.aJ F))):=Ao uV (fun v hv=>(NhFam.jL uV.srt).mp (List.mem_filter.mp hv).1) (by omega)
 have p4:ce [none,some 1] (bt (ai aU (ad false (aa 2) aj))) cw bM cy [.sh (.list (W.map am)),.ow ((NhFam.aJ F).map bO),.sh (am V)]=some (.ow (((NhFam.hW V).filter (NhFam.jd (NhFam.aJ F))).map am),[.sh (.list (W.map am)),.ow ((NhFam.aJ F).map bO),.sh (am V)]):=iv i4 (wC hK _ _) (dM _) (by rw[fH];omega)
 have c5:ai aT (ad false (ce [none,some 1] (bt (ai aU (ad false (aa 2) aj))) cw bM cy) aj) [.sh (.list (W.map am)),.ow ((NhFam.aJ F).map bO),.sh (am V)]=some (.ow ((NhFam.tY F V).map am),[.sh (.list (W.map am)),.ow ((NhFam.aJ F).map bO),.sh (am V)]):=aE (ss:=[.ow (((NhFam.hW V).filter (NhFam.jd (NhFam.aJ F))).map am)]) (by simp only[ad,aj,p4,Z0,Z1,bS]) rfl (iu fit)
 have g:aG [.list (W.map am)]=(eS [.sh (.list (W.map am)),.no,.no]).bind fun a=>match a.2 with |.rt r=>dQ r |.nx=>some (.sh .none) |_=>none:=rfl
 have fl:=dM (NhFam.tY F V)
 rw[g,eS,aL s1,aL s2,aL c3]
 simp only[aO,c5,Z1,Z0,dQ,bG,fl,if_true]
theorem j6{U:List Nat}{W:List (List Nat)}(u:Uni U)(h:Wrt U W):NhFam.Told U (NhFam.tY (cP W) (au W.flatten)) (NhFam.lJ (cP W)):=by
 have s:=qE u h
 exact(NhFam.j6 u.srt s.1 s.2 (h.sets u) (x6 u h)).congr fun w hw=>(NhFam.qy (h.sets u)).symm
theorem EK{w:List Nat}(h:∀a∈w,az a):(am w).canLay0=true:=by
 have:∀a∈w,a < 1114112:=fun a ha=>by have:=h a ha;unfold az at this;omega
 simp only[am,PyData.canLay0,PyData.strOk]
 simpa using this
theorem Aq:∀{L:List (List Nat)},(∀w∈L,∀a∈w,az a)→PyData.canLayAll0 (L.map am)=true∧PyData.depthAll (L.map am)=0
 |[],_=>by simp[PyData.canLayAll0,PyData.depthAll]
 |w::L,h=>by
  obtain⟨x,y⟩:=Aq (L:=L) fun v hv=>h v (il _ hv)
  have h1:=EK (h w (io ..))
  have h2:(am w).depth=0:=by simp[am,PyData.depth]
  simp only[dN,PyData.canLayAll0,PyData.depthAll,h1,h2,x,y,Bool.and_self,true_and]
  rfl
theorem x8{L:List (List Nat)}(h:∀w∈L,∀a∈w,az a):SeqAt.shaped (.list (L.map am))=true:=by
 obtain⟨x,y⟩:=Aq h
 unfold SeqAt.shaped
 simp only[PyData.canLay0,PyData.depth,x,y,Bool.true_and]
 decide
theorem Ar:∀L:List (List Nat),PyData.eqvAll (L.map am) (L.map am)=true
 |[]=>by simp[PyData.eqvAll]
 |w::L=>by
  simp only[dN,PyData.eqvAll,Ar L,Bool.and_true]
  simp[am,PyData.eqv]
theorem EL{L:List (List Nat)}(h:∀w∈L,∀a∈w,az a):AM (.list (L.map am)) (.list (L.map am))=some true:=by
 have e:AM (.list (L.map am)) (.list (L.map am))=(if SeqAt.shaped (.list (L.map am))&&SeqAt.shaped (.list (L.map am))then some (PyData.eqv (.list (L.map am)) (.list (L.map am)))else none):=rfl
 rw[e,x8 h]
 simp only[PyData.eqv,Ar,Bool.and_self,if_true]
theorem flatA_all:∀{ds:List PyData},bE ds=true↔∀d∈ds,cT d=true
 |[]=>⟨fun _ d h=>(nomatch h),fun _=>rfl⟩
 |a::ds=>by
  show(cT a&&bE ds)=true↔_
  rw[sy,flatA_all]
  exact⟨fun h d hd=>(Zal.mp hd).elim (fun z=>z▸h.1) (h.2 d),fun h=>⟨h a (io ..),fun d hd=>h d (il _ hd)⟩⟩
theorem As{ds:List PyData}{a b:Option Int}(h:bE ds=true):bE (fS ds a b)=true:=flatA_all.mpr fun d hd=>flatA_all.mp h d (List.mem_of_mem_drop (List.mem_of_mem_take hd))
theorem rX{r:iD}{ds:List PyData}{k n:Nat}{x:Str×List Sl}(h:ds.length=k)(e:r (aX n ds)=some x):u_ k n r ds=some x.1:=by
 unfold u_
 rw[if_pos h,e]
 rfl
theorem F_{r:iD}{ds:List PyData}{k n:Nat}(e:r (aX n ds)=none):u_ k n r ds=none:=by
 unfold u_
 rw[e]
 split <;> rfl
theorem CD{a:Nat}(h:¬az a):bD [bN a]=some (.sh (.bool false)):=by
 have l:(⟨#[a]⟩:Str).length=1:=rfl
 have t:(#[a]:Array Nat).toList=[a]:=rfl
 have ea:(Str.ofString "a").cps.toList=[97]:=by decide+kernel
 have ez:(Str.ofString "z").cps.toList=[122]:=by decide+kernel
 by_cases h1:a < 97
 ·have lo:decide ([a] < (Str.ofString "a").cps.toList)=true:=by rw[ea];exact decide_eq_true (List.Lex.rel h1)
  simp only[bD,fz,bN,Z4,Z5,dE,gT,aO,i_,iP,aa,aX,dN,jh,Nat.sub_self,List.replicate,Z9,Z8,Z2,look,Sl.val,oa,Ty.is,C7,Z0,Z1,ag,gA,ad,Sl.isBr,aj,gB,pC,jl,fu,kJ,Bool.or_false,g8,Cm.i,Cm.s,cJ,l,Nat.reduceLeDiff,Int.cast_ofNat_Int,fm,lo,dQ,bG,cT,bS]
 ·have h2:122 < a:=by unfold az at h;omega
  have lo:decide ([a] < (Str.ofString "a").cps.toList)=false:=by
   rw[ea]
   refine decide_eq_false fun k=>?_
   cases k with
   |rel k=>exact h1 k
   |cons k=>cases k
  have hi:decide ((Str.ofString "z").cps.toList < [a])=true:=by rw[ez];exact decide_eq_true (List.Lex.rel h2)
  simp only[bD,fz,bN,Z4,Z5,dE,gT,aO,i_,iP,aa,aX,dN,jh,Nat.sub_self,List.replicate,Z9,Z8,Z2,look,Sl.val,oa,Ty.is,C7,Z0,Z1,ag,gA,ad,Sl.isBr,aj,gB,pC,jl,fu,kJ,Bool.or_false,g8,Cm.i,Cm.s,cJ,l,Nat.reduceLeDiff,Int.cast_ofNat_Int,fm,hi,lo,dQ,bG,cT,bS]
def lW:iD:=AO (cG (dh (ai bD (ad false (aa 1) aj)))) (tH "NoNails")
theorem rY(x0:Sl)(a:Nat)(b:Bool)(h:bD [bN a]=some (.sh (.bool b))):cG (dh (ai bD (ad false (aa 1) aj))) [x0,.sh (bN a)]=some (!b,[x0,.sh (bN a)]):=by
 have e:ai bD (ad false (aa 1) aj) [x0,.sh (bN a)]=some (.sh (.bool b),[x0,.sh (bN a)]):=aE (ss:=[.sh (bN a)]) rfl rfl h
 simp only[cG,dh,e,Z0,Sl.val,ix,Z1]
theorem CF{g:gK}{b:dO}{r:iD}{d:PyData}{ds:List PyData}{E E1:List Sl}{x:Str×List Sl}(t:g d E=some E1)(h:r E1=some x):jG g b r (d::ds) E=some x:=by
 show(g d E).bind _=_
 rw[t,Option.bind_some]
 simp only[h]
theorem At{g:gK}{b:dO}{r:iD}{d:PyData}{ds:List PyData}{E E1 E2:List Sl}(t:g d E=some E1)(h:r E1=none)(q:b E1=some (E2,.nx)):jG g b r (d::ds) E=jG g b r ds E2:=by
 show(g d E).bind _=_
 rw[t,Option.bind_some]
 simp only[h,q]
theorem Au(x0:Sl):∀(w:List Nat) (x:Sl),(∃a∈w,¬az a)→∃E',jG bT bU lW (w.map bN) [x0,x]=some (("NoNails":Str),E')
 |[],x,h=>by obtain⟨a,h,_⟩:=h;cases h
 |a::w,x,h=>by
  have t:bT (bN a) [x0,x]=some [x0,.sh (bN a)]:=rfl
  by_cases ha:az a
  ·have n:=rY x0 a true (kW ha)
   have r:lW [x0,.sh (bN a)]=none:=by unfold lW AO;rw[n];rfl
   have g:bU [x0,.sh (bN a)]=some ([x0,.sh (bN a)],.nx):=jf n rfl
   obtain⟨E',q⟩:=Au x0 w (.sh (bN a)) (by
    obtain⟨b,hb,nb⟩:=h
    rcases Zal.mp hb with rfl |hb
    ·exact absurd ha nb
    ·exact⟨b,hb,nb⟩)
   refine⟨E',?_⟩
   rw[dN,At t r g]
   exact q
  ·have n:=rY x0 a false (CD ha)
   have r:lW [x0,.sh (bN a)]=some (("NoNails":Str),[x0,.sh (bN a)]):=by unfold lW AO;rw[n];rfl
   refine⟨[x0,.sh (bN a)],?_⟩
   rw[dN,CF t r]
theorem wE(x0:Sl):∀(w:List Nat) (x:Sl),(∀a∈w,az a)→jG bT bU lW (w.map bN) [x0,x]=none
 |[],x,h=>rfl
 |a::w,x,h=>by
  have t:bT (bN a) [x0,x]=some [x0,.sh (bN a)]:=rfl
  have n:=rY x0 a true (kW (h a (io ..)))
  have r:lW [x0,.sh (bN a)]=none:=by unfold lW AO;rw[n];rfl
  have g:bU [x0,.sh (bN a)]=some ([x0,.sh (bN a)],.nx):=jf n rfl
  rw[dN,At t r g]
  exact wE x0 w _ fun b hb=>h b (il _ hb)
theorem wF(w:List Nat):lN [.sh (am w),.no]=jG bT bU lW (w.map bN) [.sh (am w),.no]:=by
 rw[←wx]
 rfl
theorem uf{w:List Nat}(h:∃a∈w,¬az a):cu [am w]=some "NoNails":=by
 obtain⟨E',q⟩:=Au (.sh (am w)) w .no h
 exact rX (x:=("NoNails",E')) rfl ((wF w).trans q)
theorem wG{w:List Nat}(h:∀a∈w,az a):cu [am w]=none:=F_ ((wF w).trans (wE _ w _ h))
def AR(d:PyData):Prop:=cu [d]=some "NoNails"
theorem x9:aH "NoNails" (.int 0)=some (.sh (.bool true)):=by kernel_rfl
theorem EM:aH "TooMany" (.int 1)=some (.sh (.bool true)):=by kernel_rfl
theorem gH{r:List PyData→Option Str}{g:ln}{E E1:List Sl}{rs:List Sl}{ds:List PyData}{n:Str}(g1:g E=some (rs,E1))(l:cJ E1 rs=some ds)(h:r ds=some n):fE r g E=some (n,E1):=by
 unfold fE
 rw[g1,Option.bind_some]
 simp only[l,Z0,h,Z1]
theorem i9{E E1:List Sl}{js:List Nat}{ds:List PyData}{n:Nat}{r:List PyData→Option Str}{g:ln}{ok:List Str}{c:Str→PyData→Option Sl}{due:Int}{nm:Str}{sv:Sl}(v:vals E js=some ds)(rc:fE r g (aX n ds)=some (nm,E1))(ho:nm∈ok)(hc:c nm (.int due)=some sv):nv js n r g ok c due E=some (sv,E):=by
 unfold nv
 rw[v,Option.bind_some,rc,Option.bind_some]
 simp only[if_pos ho,hc,Z1]
theorem kZ{f:bH}{E:List Sl}(h:f E=some (.sh (.bool true),E)):(dD (cG (dh f)) (aO (pC (.bool false))) bJ) E=some (E,.nx):=by
 have t:(cG (dh f)) E=some (false,E):=by
  simp only[cG,dh,h,Z0,Sl.val,ix,Z1,Bool.not_true]
 exact jf t rfl
theorem Av{r:List PyData→Option Str}{g:ln}{E E1:List Sl}{rs:List Sl}{ds:List PyData}(g1:g E=some (rs,E1))(l:cJ E1 rs=some ds)(h:r ds=none):fE r g E=none:=by
 unfold fE
 rw[g1,Option.bind_some]
 simp only[l,Z0,h,Option.map_none]
theorem CG{tg:gK}{el:bH}{re:iD}{d:PyData}{ds:List PyData}{E E1:List Sl}{x:Str×List Sl}(t:tg d E=some E1)(h:re E1=some x):hO tg el re (d::ds) E=some x.1:=by
 rw[hO,t,Option.bind_some]
 simp only[h]
theorem Aw{tg:gK}{el:bH}{re:iD}{d r:PyData}{ds:List PyData}{E E1 E2:List Sl}(t:tg d E=some E1)(h:re E1=none)(e:el E1=some (.sh r,E2)):hO tg el re (d::ds) E=hO tg el re ds E2:=by
 rw[hO,t,Option.bind_some]
 simp only[h,e,Z0,frz]
def x_:bH:=ai bv (ad false (aa 0) aj)
def tu:iD:=fE cu (ad false (aa 0) aj)
def Gd(d:PyData):Prop:=∃w:List Nat,d=am w∧(∀a∈w,az a)∧w.length≤3900
theorem wH{d:PyData}(hd:AR d)(es:List PyData):∀(ds:List PyData) (x:Sl),(∀g∈ds,Gd g)→hO (aW 0) x_ tu (ds++d::es) [x]=some ("NoNails":Str)
 |[],x,_=>CG (x:=("NoNails",[.sh d])) (show aW 0 d [x]=some [.sh d]from rfl) (gH (rs:=[.sh d]) (ds:=[d]) rfl rfl hd)
 |g::ds,x,h=>by
  obtain⟨w,rfl,hw,hl⟩:=h g (io ..)
  have e1:tu [.sh (am w)]=none:=Av (rs:=[.sh (am w)]) (ds:=[am w]) rfl rfl (wG hw)
  have e2:x_ [.sh (am w)]=some (.sh (am (au w)),[.sh (am w)]):=aE (ss:=[.sh (am w)]) rfl rfl (gj hw hl)
  rw[List.cons_append,Aw (show aW 0 (am w) [x]=some [.sh (am w)]from rfl) e1 e2]
  exact wH hd es ds _ fun g hg=>h g (il _ hg)
theorem ug:∀(ds:List PyData) (x:Sl),(∀g∈ds,Gd g)→hO (aW 0) x_ tu ds [x]=none
 |[],x,_=>rfl
 |g::ds,x,h=>by
  obtain⟨w,rfl,hw,hl⟩:=h g (io ..)
  have e1:tu [.sh (am w)]=none:=Av (rs:=[.sh (am w)]) (ds:=[am w]) rfl rfl (wG hw)
  have e2:x_ [.sh (am w)]=some (.sh (am (au w)),[.sh (am w)]):=aE (ss:=[.sh (am w)]) rfl rfl (gj hw hl)
  rw[Aw (show aW 0 (am w) [x]=some [.sh (am w)]from rfl) e1 e2]
  exact ug ds _ fun g hg=>h g (il _ hg)
theorem Ax(L:List PyData)(hl:L.length≤1000000):gR [.sh (.list L)]=(hO (aW 0) x_ tu L [.no]).map fun n=>(n,[.sh (.list L)]):=by
 show tU [none] (bt (aa 0)) (aW 0) x_ tu [.sh (.list L)]=_
 have e:bt (aa 0) [.sh (.list L)]=some (L,[.sh (.list L)]):=rfl
 unfold tU
 rw[e,Option.bind_some]
 simp only[if_pos hl]
 rfl
theorem lX{ds es:List PyData}{d:PyData}(hd:AR d)(h:∀g∈ds,Gd g)(hl:(ds++d::es).length≤1000000):bI [.list (ds++d::es)]=some ("NoNails":Str):=
 rX (x:=("NoNails",_)) rfl ((Ax _ hl).trans (by rw[wH hd es ds _ h];rfl))
theorem pT{L:List PyData}(h:∀g∈L,Gd g)(hl:L.length≤1000000):bI [.list L]=none:=
 F_ ((Ax _ hl).trans (by rw[ug L _ h];rfl))
theorem m_{ds es:List PyData}{d:PyData}(hd:AR d)(h:∀g∈ds,Gd g)(hl:(ds++d::es).length≤1000000):bA [.list (ds++d::es)]=some ("NoNails":Str):=by
 refine rX (x:=("NoNails",[.sh (.list (ds++d::es)),.no,.no])) rfl ?_
 show Er _ _ _=_
 unfold Er
 rw[gH (E1:=[.sh (.list (ds++d::es)),.no,.no]) (rs:=[.sh (.list (ds++d::es))]) (ds:=[.list (ds++d::es)]) rfl rfl (lX hd h hl)]
theorem jP(c:PyData){d:PyData}(hd:AR d):eR [c,d]=some ("NoNails":Str):=
 rX (x:=("NoNails",[.sh c,.sh d,.no])) rfl (gH (rs:=[.sh d]) (ds:=[d]) rfl rfl hd)
theorem rZ(c:PyData){d:PyData}(hd:AR d):dG [c,d]=some ("NoNails":Str):=
 rX (x:=("NoNails",[.sh c,.sh d])) rfl (gH (rs:=[.sh c,.sh d]) (ds:=[c,d]) rfl rfl (jP c hd))
theorem pj(x:Str)(l u:Option Int):Txt.slice x l u=PySem.StrLaws.sliceText x l u:=rfl
theorem pk(w:List Nat)(i:Nat)(h:i≤w.length):Txt.slice (⟨w.toArray⟩:Str) (some (i:Int)) none=⟨(w.drop i).toArray⟩:=by
 have e:(⟨w.toArray⟩:Str).cps.toList=w:=by simp
 rw[pj,PySem.StrLaws.sliceText_from ⟨by omega,by rw[e];omega⟩,e]
 rw[show((w.length:Int) - (i:Int)).toNat=w.length - i by omega,Int.toNat_natCast,List.take_of_length_le (by simp)]
theorem Dh(u v:List Nat):(⟨u.toArray⟩:Str)++(⟨v.toArray⟩:Str)=⟨(u++v).toArray⟩:=by
 show(⟨u.toArray++v.toArray⟩:Str)=_
 simp
def sgnL:List Nat:=[32,33,34,35,36,38,39,40,41,42,43,44,45,46,47,48,49,50,51,52,53,54,55,56,57,58,59,60,61,62,63,64,65,66,67,68,69,70,71,72,73,74,75,76,77,78,79,80,81,82,83,84,85,86,87,88,89,90,91,92,93,94,95,96,123,124,125,126,10,9]
theorem EN:∀a∈sgnL,¬az a:=by
 have h:sgnL.all (fun a=> !(decide (97≤a)&&decide (a < 123)))=true:=by decide+kernel
 intro a ha z
 have:=Zbg.mp h a ha
 simp[z.1,z.2]at this
theorem CI:(Str.ofString " !\"#$&'()*+,-./0123456789:;<=>?@ABCDEFGHIJKLMNOPQRSTUVWXYZ[\\]^_`{|}~\n\t").length=70:=by decide+kernel
theorem CJ:(Str.ofString " !\"#$&'()*+,-./0123456789:;<=>?@ABCDEFGHIJKLMNOPQRSTUVWXYZ[\\]^_`{|}~\n\t").cps.toList=sgnL:=by decide+kernel
theorem r8{α:Type}{l:List α}{i:Int}(h0:0≤i)(h1:i < l.length):∃a∈l,atI l i=some a:=by
 rw[y4 h0]
 have hl:i.toNat < l.length:=by omega
 exact⟨l[i.toNat],List.getElem_mem hl,uv hl⟩
theorem uh(z:Int):∃a,¬az a∧cm [.int z]=some (.sh (bN a)):=by
 obtain⟨a,ha,e⟩:=r8 (l:=sgnL) (i:=z % 70) (by omega) (by show z % 70 < 70;omega)
 refine⟨a,EN a ha,?_⟩
 have d:eP (70:Int)=true:=by decide
 simp only[cm,fz,Z4,Z5,dE,i6,aP,aD,pC,aX,dN,jh,Nat.reduceSub,List.replicate,Z9,Z8,PL.settle,frz,frzAll,Z0,Nat.reduceAdd,Nat.reduceLT,Z7,Z6,aO,ag,aa,Sl.isBr,gA,ad,aj,Z1,gB,b7,fu,look,Sl.val,mi,lr,gZ,fR,Z3,Z2,cJ,CI,Nat.reduceLeDiff,Int.cast_ofNat_Int,Int.reduceLT,CJ,e,dQ,bG,cT,bN,bS]
def qzL:List Nat:=[113,97,122,119,115,120,101,100,99]
theorem Ga:(Str.ofString "qazwsxedc")=⟨qzL.toArray⟩:=by decide+kernel
def Gb(d:PyData):Sl:=if cT d then .sh d else .br d
def uk:List PyData:=[.none,.int 7,.bool true,.list [.str "a"],.tuple [.str "a",.str "b"],.int 0,.dict []]
theorem vB(w:List Nat)(i:Nat)(h:i≤w.length):Txt.slice (⟨w.toArray⟩:Str) none (some (i:Int))=⟨(w.take i).toArray⟩:=by
 have e:(⟨w.toArray⟩:Str).cps.toList=w:=by simp
 rw[pj,PySem.StrLaws.sliceText_to ⟨by omega,by rw[e];omega⟩,e]
 simp
theorem Ay:∀d∈uk,AR d:=by
 intro d hd
 simp only[uk,Zal,List.not_mem_nil,or_false]at hd
 rcases hd with rfl |rfl |rfl |rfl |rfl |rfl |rfl <;> (unfold AR;kernel_rfl)
theorem Az(z:Int):∃d∈uk,(aO (ag lr false (cQ (ak (pC .none) (ak (pC (.int 7)) (ak (pC (.bool true)) (ak (cQ (ak (pC (.str "a")) bi)) (ak (gJ (ak (pC (.str "a")) (ak (pC (.str "b")) bi))) (ak (pC (.int 0)) (ak FW bi)))))))) (ag b7 false (ag bo false (aa 0) (pC (.int 3))) (pC (.int 7))))) [.sh (.int z),.no,.no]=some ([.sh (.int z),.no,.no],.rt (.sh d)):=by
 obtain⟨d,hd,e⟩:=r8 (l:=uk) (i:=z / 3 % 7) (by omega) (by show z / 3 % 7 < 7;omega)
 refine⟨d,hd,?_⟩
 have f:cQ (ak (pC .none) (ak (pC (.int 7)) (ak (pC (.bool true)) (ak (cQ (ak (pC (.str "a")) bi)) (ak (gJ (ak (pC (.str "a")) (ak (pC (.str "b")) bi))) (ak (pC (.int 0)) (ak FW bi))))))) [.sh (.int z),.no,.no]=some (.ow uk,[.sh (.int z),.no,.no]):=by kernel_rfl
 have d1:eP (3:Int)=true:=by decide
 have d2:eP (7:Int)=true:=by decide
 have g:ag b7 false (ag bo false (aa 0) (pC (.int 3))) (pC (.int 7)) [.sh (.int z),.no,.no]=some (.sh (.int (z / 3 % 7)),[.sh (.int z),.no,.no]):=by
  simp only[ag,aa,Z2,Sl.isBr,pC,bo,fu,look,Sl.val,mi,Z0,d1,Z1,b7,Int.reduceLT,bS]
 generalize cQ (ak (pC .none) (ak (pC (.int 7)) (ak (pC (.bool true)) (ak (cQ (ak (pC (.str "a")) bi)) (ak (gJ (ak (pC (.str "a")) (ak (pC (.str "b")) bi))) (ak (pC (.int 0)) (ak FW bi)))))))=F at f ⊢
 generalize ag b7 false (ag bo false (aa 0) (pC (.int 3))) (pC (.int 7))=G at g ⊢
 unfold aO ag
 rw[f,Option.bind_some]
 simp only[g,Z0,lr,look,Sl.val,e,Z1,gZ,fR,bS]
theorem G6(z:Int)(j:Nat)(hj:(j:Int)=z / 3 % 9)(x:Sl):aD 1 (fe false (pC (.str "qazwsxedc")) (cI (ag b7 false (ag bo false (aa 0) (pC (.int 3))) (pC (.int 9)))) cH) [.sh (.int z),.no,x]=some ([.sh (.int z),.sh (am (qzL.drop j)),x],.nx):=by
 have d1:eP (3:Int)=true:=by decide
 have d2:eP (9:Int)=true:=by decide
 have s:=pk qzL j (by show j≤9;omega)
 have l:(⟨qzL.toArray⟩:Str).length≤1000000:=by decide
 rw[hj]at s
 simp only[aD,fe,pC,Ga,Sl.isBr,cI,ag,aa,bo,fu,look,Sl.val,mi,Z0,b7,cH,gZ,fR,Z2,d1,Z1,Int.reduceLT,l,s,PL.settle,frz,frzAll,Z4,Z5,Nat.reduceAdd,Nat.reduceLT,Z7,Z6,am,bS]
theorem G7(z:Int)(w:List Nat)(hl:w.length≤9):aD 2 (ag b7 false (ag bo false (aa 0) (pC (.int 27))) (ag ck false (gA gB (ad false (aa 1) aj)) (pC (.int 1)))) [.sh (.int z),.sh (am w),.no]=some ([.sh (.int z),.sh (am w),.sh (.int (z / 27 % ((w.length:Int)+1)))],.nx):=by
 have d1:eP (27:Int)=true:=by decide
 have d2:(0:Int) < (w.length:Int)+1:=by omega
 have l:=j_ w
 have ll:w.length≤1000000:=by omega
 simp only[aD,ag,aa,am,Z2,Sl.isBr,pC,bo,fu,look,Sl.val,mi,Z0,d1,Z1,gA,ad,aj,gB,ck,gZ,fR,b7,Z3,cJ,l,ll,d2,PL.settle,frz,frzAll,Z4,Z5,Nat.reduceAdd,Nat.reduceLT,Z7,Z6,bS]
theorem G8(z:Int)(w:List Nat)(k a:Nat)(hl:w.length≤9)(hk:k≤w.length)(h:cm [.int (z / 5)]=some (.sh (bN a))):(aO (ag ck false (ag ck false (fe false (aa 1) cH (cI (aa 2))) (ai cm (ad false (ag bo false (aa 0) (pC (.int 5))) aj))) (fe false (aa 1) (cI (aa 2)) cH))) [.sh (.int z),.sh (am w),.sh (.int (k:Int))]=some ([.sh (.int z),.sh (am w),.sh (.int (k:Int))],.rt (.sh (am (w.take k++[a]++w.drop k)))):=by
 have d1:eP (5:Int)=true:=by decide
 have s1:=vB w k hk
 have s2:=pk w k hk
 have l:=j_ w
 have ll:w.length≤1000000:=by omega
 have c1:fe false (aa 1) cH (cI (aa 2)) [.sh (.int z),.sh (am w),.sh (.int (k:Int))]=some (.sh (am (w.take k)),[.sh (.int z),.sh (am w),.sh (.int (k:Int))]):=by
  simp only[fe,aa,am,Z3,Z2,Sl.isBr,cH,cI,look,Sl.val,gZ,fR,Z0,l,ll,s1,bS]
 have c2:fe false (aa 1) (cI (aa 2)) cH [.sh (.int z),.sh (am w),.sh (.int (k:Int))]=some (.sh (am (w.drop k)),[.sh (.int z),.sh (am w),.sh (.int (k:Int))]):=by
  simp only[fe,aa,am,Z3,Z2,Sl.isBr,cI,look,Sl.val,cH,gZ,fR,Z0,l,ll,s2,bS]
 have c3:ai cm (ad false (ag bo false (aa 0) (pC (.int 5))) aj) [.sh (.int z),.sh (am w),.sh (.int (k:Int))]=some (.sh (bN a),[.sh (.int z),.sh (am w),.sh (.int (k:Int))]):=by
  refine aE (ss:=[.sh (.int (z / 5))]) ?_ rfl h
  simp only[ad,ag,aa,Z2,Sl.isBr,pC,bo,fu,look,Sl.val,mi,Z0,d1,Z1,aj,bS]
 generalize fe false (aa 1) cH (cI (aa 2))=C1 at c1 ⊢
 generalize fe false (aa 1) (cI (aa 2)) cH=C2 at c2 ⊢
 generalize ai cm (ad false (ag bo false (aa 0) (pC (.int 5))) aj)=C3 at c3 ⊢
 have a1:(⟨(w.take k).toArray⟩:Str)++(⟨#[a]⟩:Str)=⟨(w.take k++[a]).toArray⟩:=Dh (w.take k) [a]
 have a2:=Dh (w.take k++[a]) (w.drop k)
 have n1:=j_ (w.take k)
 have n2:=j_ (w.drop k)
 have n3:=j_ (w.take k++[a])
 have n4:(⟨#[a]⟩:Str).length=1:=rfl
 have m1:(w.take k).length+1≤1000000:=by rw[List.length_take];omega
 have m2:(w.take k++[a]).length+(w.drop k).length≤1000000:=by rw[vH,List.length_take,List.length_drop];simp;omega
 generalize [Sl.sh (PyData.int z),Sl.sh (am w),Sl.sh (PyData.int (k:Int))]=E at c1 c2 c3 ⊢
 unfold aO ag
 rw[c1,Option.bind_some]
 simp only[c3,c2,Z0,ck,look,Sl.val,am,bN,a1,a2,n1,n2,n3,n4,m1,m2,bS]
theorem vC(z:Int):∃d,fD [.int z]=some (Gb d)∧AR d:=by
 have d1:eP (3:Int)=true:=by decide
 by_cases h:z % 3 < 2
 ·have t:gS (ag (fu (g8 .lt)) false (ag b7 false (aa 0) (pC (.int 3))) (pC (.int 2))) [.sh (.int z),.no,.no]=some (true,[.sh (.int z),.no,.no]):=by
   simp only[gS,ag,aa,Z2,Sl.isBr,pC,b7,fu,look,Sl.val,mi,Z0,Int.reduceLT,Z1,g8,Cm.i,Cm.s,decide_eq_true h,bS]
  obtain⟨j,hj⟩:∃j:Nat,(j:Int)=z / 3 % 9:=⟨(z / 3 % 9).toNat,by omega⟩
  have hw:(qzL.drop j).length≤9:=by rw[List.length_drop];show 9 - j≤9;omega
  generalize hq:qzL.drop j=w at hw
  obtain⟨k,hk⟩:∃k:Nat,(k:Int)=z / 27 % ((w.length:Int)+1):=⟨(z / 27 % ((w.length:Int)+1)).toNat,by
   have:=Int.emod_nonneg (z / 27) (show(w.length:Int)+1≠0 by omega)
   omega⟩
  have hk2:k≤w.length:=by
   have:=Int.emod_lt_of_pos (z / 27) (show 0 < (w.length:Int)+1 by omega)
   omega
  obtain⟨a,na,e⟩:=uh (z / 5)
  refine⟨am (w.take k++[a]++w.drop k),?_,uf ⟨a,by simp,na⟩⟩
  have b1:=G6 z j hj .no
  have b2:=G7 z w hw
  have b3:=G8 z w k a hw hk2 e
  rw[hq]at b1
  rw[←hk]at b2
  show dE 3 eY [.int z]=_
  unfold dE
  show(eY [.sh (.int z),.no,.no]).bind _=_
  unfold eY
  have q:(dD (gS (ag (fu (g8 .lt)) false (ag b7 false (aa 0) (pC (.int 3))) (pC (.int 2)))) (aP (aD 1 (fe false (pC (.str "qazwsxedc")) (cI (ag b7 false (ag bo false (aa 0) (pC (.int 3))) (pC (.int 9)))) cH)) (aP (aD 2 (ag b7 false (ag bo false (aa 0) (pC (.int 27))) (ag ck false (gA gB (ad false (aa 1) aj)) (pC (.int 1))))) (aO (ag ck false (ag ck false (fe false (aa 1) cH (cI (aa 2))) (ai cm (ad false (ag bo false (aa 0) (pC (.int 5))) aj))) (fe false (aa 1) (cI (aa 2)) cH))))) bJ) [.sh (.int z),.no,.no]=some ([.sh (.int z),.sh (am w),.sh (.int (k:Int))],.rt (.sh (am (w.take k++[a]++w.drop k)))):=
   mM t (by rw[aL b1,aL b2,b3])
  unfold aP at q ⊢
  rw[q]
  rfl
 ·have t:gS (ag (fu (g8 .lt)) false (ag b7 false (aa 0) (pC (.int 3))) (pC (.int 2))) [.sh (.int z),.no,.no]=some (false,[.sh (.int z),.no,.no]):=by
   simp only[gS,ag,aa,Z2,Sl.isBr,pC,b7,fu,look,Sl.val,mi,Z0,Int.reduceLT,Z1,g8,Cm.i,Cm.s,decide_eq_false h,bS]
  obtain⟨d,hd,e⟩:=Az z
  refine⟨d,?_,Ay d hd⟩
  show dE 3 eY [.int z]=_
  unfold dE
  show(eY [.sh (.int z),.no,.no]).bind _=_
  unfold eY
  rw[aL (jf t rfl),e]
  show dQ (.sh d)=_
  unfold Gb
  by_cases hf:cT d=true
  ·rw[if_pos hf]
   show(if bG (.sh d)then _ else _)=_
   rw[if_pos (show bG (.sh d)=true from hf)]
  ·rw[if_neg hf]
   show(if bG (.sh d)then _ else _)=_
   rw[if_neg (show ¬bG (.sh d)=true from hf)]
def k_(z:Int)(k:Nat):Nat:=97+((z+7*(k:Int)) % 26).toNat
def bu(z:Int)(n:Nat):List Nat:=(List.range' 0 n).map (k_ z)
theorem ya(z:Int)(k:Nat):az (k_ z k):=by unfold k_ az;omega
theorem ka(z:Int)(n:Nat):∀a∈bu z n,az a:=fun a ha=>by
 obtain⟨k,_,rfl⟩:=Zap.mp ha
 exact ya z k
theorem dY(z:Int)(n:Nat):(bu z n).length=n:=by simp[bu]
theorem la(z:Int)(n:Nat)(h:n≤26):(bu z n).Nodup:=by
 unfold bu
 refine List.Pairwise.map _ (fun a b=>?_) (List.Pairwise.and_mem.mp List.nodup_range')
 rintro⟨ha,hb,hab⟩ e
 have ha:=(List.mem_range'_1.mp ha).2
 have hb:=(List.mem_range'_1.mp hb).2
 unfold k_ at e
 omega
theorem wI(z:Int):∀(n lo:Nat) (x:Sl),dC d9 cr dw (oh lo n) [x,.sh (.str "abcdefghijklmnopqrstuvwxyz"),.sh (.int z)]=some (((List.range' lo n).map (k_ z)).map bN)
 | 0,lo,x=>rfl
 |n+1,lo,x=>by
  have e:=wI z n (lo+1) (.sh (.int lo))
  have m:jr 7 (lo:Int)=true:=BO (by omega) (by omega)
  have s:dw [.sh (.int lo),.sh (.str "abcdefghijklmnopqrstuvwxyz"),.sh (.int z)]=some (.sh (bN (k_ z lo)),[.sh (.int lo),.sh (.str "abcdefghijklmnopqrstuvwxyz"),.sh (.int z)]):=by
   simp only[dw,ag,aa,Z3,Z2,Sl.isBr,pC,sM,look,Sl.val,gZ,fR,Z0,ck,b7,fu,mi,lr,m,Int.reduceLT,Z1,Em,GZ,bN,k_,bS]
  have t:d9 (.int lo) [x,.sh (.str "abcdefghijklmnopqrstuvwxyz"),.sh (.int z)]=some [.sh (.int lo),.sh (.str "abcdefghijklmnopqrstuvwxyz"),.sh (.int z)]:=rfl
  rw[show((lo+1:Nat):Int)=(lo:Int)+1 by omega]at e
  rw[xk,List.range'_succ,dN,dN]
  exact lS t s e
theorem fF(z:Int)(n:Nat)(h:n≤1000):av [.int z,.int (n:Int)]=some (.ow ((bu z n).map bN)):=by
 have e:=wI z n 0 .no
 have fl:=lT (bu z n)
 have l:=dY z n
 have i:oi (ad false (aa 1) aj) [.sh (.int z),.sh (.int (n:Int)),.sh (.str "abcdefghijklmnopqrstuvwxyz")]=some (oh 0 n,[.sh (.int z),.sh (.int (n:Int)),.sh (.str "abcdefghijklmnopqrstuvwxyz")]):=by
  have o1:(-1000000:Int)≤(n:Int):=by omega
  have o2:(n:Int)≤1000000:=by omega
  simp only[oi,ad,aa,Z3,Z2,Sl.isBr,aj,Z1,Z0,cJ,look,Sl.val,o1,o2,and_self,Int.toNat_natCast,bS]
 have c:ce [none,some 2,some 0] (oi (ad false (aa 1) aj)) d9 cr dw [.sh (.int z),.sh (.int (n:Int)),.sh (.str "abcdefghijklmnopqrstuvwxyz")]=some (.ow ((bu z n).map bN),[.sh (.int z),.sh (.int (n:Int)),.sh (.str "abcdefghijklmnopqrstuvwxyz")]):=by
  unfold ce
  rw[i,Option.bind_some]
  show((dC d9 cr dw (oh ((0:Nat):Int) n) [.no,.sh (.str "abcdefghijklmnopqrstuvwxyz"),.sh (.int z)]).bind _)=_
  rw[e,Option.bind_some]
  show(if bE ((bu z n).map bN)&&decide (((bu z n).map bN).length≤1000000)then _ else _)=_
  rw[if_pos (by rw[fl,fH,l];simp;omega)]
  rfl
 show dE 3 fZ [.int z,.int (n:Int)]=_
 unfold dE
 show(fZ [.sh (.int z),.sh (.int (n:Int)),.no]).bind _=_
 unfold fZ
 rw[aL (show aD 2 (pC (.str "abcdefghijklmnopqrstuvwxyz")) [.sh (.int z),.sh (.int (n:Int)),.no]=some ([.sh (.int z),.sh (.int (n:Int)),.sh (.str "abcdefghijklmnopqrstuvwxyz")],.nx)from rfl)]
 unfold aO
 rw[c,Option.bind_some]
 show dQ (.ow ((bu z n).map bN))=_
 show(if bG (.ow ((bu z n).map bN))then _ else _)=_
 rw[if_pos (show bG (.ow ((bu z n).map bN))=true from fl)]
def r_:List PyData:=[.str "ab",.str "bc",.str "ca",.str "d"]
theorem EO:∀g∈r_,Gd g:=by
 intro g hg
 simp only[r_,Zal,List.not_mem_nil,or_false]at hg
 rcases hg with rfl |rfl |rfl |rfl
 ·exact⟨[97,98],by kernel_rfl,by simp[az],by decide⟩
 ·exact⟨[98,99],by kernel_rfl,by simp[az],by decide⟩
 ·exact⟨[99,97],by kernel_rfl,by simp[az],by decide⟩
 ·exact⟨[100],by kernel_rfl,by simp[az],by decide⟩
theorem wJ{ds:List PyData}{a b:Option Int}{d:PyData}(h:d∈fS ds a b):d∈ds:=List.mem_of_mem_drop (List.mem_of_mem_take h)
theorem lY(ds:List PyData)(a b:Option Int):(fS ds a b).length≤ds.length:=by unfold fS;simp;omega
theorem G9(d:PyData)(z:Int)(x3 x4 x5:Sl):aD 2 (fe false (cQ (ak (pC (.str "ab")) (ak (pC (.str "bc")) (ak (pC (.str "ca")) (ak (pC (.str "d")) bi))))) cH (cI (ag b7 false (aa 1) (pC (.int 5))))) [.sh d,.sh (.int z),.no,x3,x4,x5]=some ([.sh d,.sh (.int z),.ow (fS r_ none (some (z % 5))),x3,x4,x5],.nx):=by
 have d1:eP (5:Int)=true:=by decide
 have f:cQ (ak (pC (.str "ab")) (ak (pC (.str "bc")) (ak (pC (.str "ca")) (ak (pC (.str "d")) bi)))) [.sh d,.sh (.int z),.no,x3,x4,x5]=some (.ow r_,[.sh d,.sh (.int z),.no,x3,x4,x5]):=by
  simp only[cQ,ak,pC,frz,bi,Z1,Z0,Z4,Z5,Nat.reduceAdd,Nat.reduceLeDiff,r_,bS]
 generalize cQ (ak (pC (.str "ab")) (ak (pC (.str "bc")) (ak (pC (.str "ca")) (ak (pC (.str "d")) bi))))=F at f ⊢
 have fl:bE (fS r_ none (some (z % 5)))=true:=As (by decide)
 simp only[aD,fe,f,Sl.isBr,cH,cI,ag,aa,pC,b7,fu,look,Sl.val,mi,Z0,gZ,fR,Z3,Z2,Int.reduceLT,Z1,PL.settle,frz,frzAll,Z4,Z5,Nat.reduceAdd,Nat.reduceLT,Z7,Z6,bS]
theorem G_(d:PyData)(z:Int)(G:List PyData)(hl:G.length≤4)(x4 x5:Sl):aD 3 (ag b7 false (ag bo false (aa 1) (pC (.int 5))) (ag ck false (gA gB (ad false (aa 2) aj)) (pC (.int 1)))) [.sh d,.sh (.int z),.ow G,.no,x4,x5]=some ([.sh d,.sh (.int z),.ow G,.sh (.int (z / 5 % ((G.length:Int)+1))),x4,x5],.nx):=by
 have d1:eP (5:Int)=true:=by decide
 have d2:(0:Int) < (G.length:Int)+1:=by omega
 simp only[aD,ag,aa,Z3,Z2,Sl.isBr,pC,bo,fu,look,Sl.val,mi,Z0,d1,Z1,gA,ad,aj,gB,ck,gZ,fR,b7,cJ,d2,PL.settle,frz,frzAll,Z4,Z5,Nat.reduceAdd,Nat.reduceLT,Z7,Z6,bS]
theorem Ha(d:PyData)(z k:Int)(G:List PyData)(hl:G.length≤4):aD 4 (ag g_ false (ag g_ false (fe false (aa 2) cH (cI (aa 3))) (qi (ad false (aa 0) aj))) (fe false (aa 2) (cI (aa 3)) cH)) [.sh d,.sh (.int z),.ow G,.sh (.int k),.no,.no]=some ([.sh d,.sh (.int z),.sh (.list G),.sh (.int k),.sh (.list (fS G none (some k)++[d]++fS G (some k) none)),.no],.nx):=by
 have c1:fe false (aa 2) cH (cI (aa 3)) [.sh d,.sh (.int z),.ow G,.sh (.int k),.no,.no]=some (.ow (fS G none (some k)),[.sh d,.sh (.int z),.ow G,.sh (.int k),.no,.no]):=rfl
 have c2:fe false (aa 2) (cI (aa 3)) cH [.sh d,.sh (.int z),.ow G,.sh (.int k),.no,.no]=some (.ow (fS G (some k) none),[.sh d,.sh (.int z),.ow G,.sh (.int k),.no,.no]):=rfl
 have l1:qi (ad false (aa 0) aj) [.sh d,.sh (.int z),.ow G,.sh (.int k),.no,.no]=some (.br (.list [d]),[.sh d,.sh (.int z),.ow G,.sh (.int k),.no,.no]):=rfl
 have n1:=lY G none (some k)
 have n2:=lY G (some k) none
 have a1:ag g_ false (fe false (aa 2) cH (cI (aa 3))) (qi (ad false (aa 0) aj)) [.sh d,.sh (.int z),.ow G,.sh (.int k),.no,.no]=some (.br (.list (fS G none (some k)++[d])),[.sh d,.sh (.int z),.ow G,.sh (.int k),.no,.no]):=by
  unfold ag
  rw[c1]
  simp only[Z0,l1,g_,look,Sl.val,bS]
  rw[if_pos (by simp;omega)]
 unfold aD
 have a2:ag g_ false (ag g_ false (fe false (aa 2) cH (cI (aa 3))) (qi (ad false (aa 0) aj))) (fe false (aa 2) (cI (aa 3)) cH) [.sh d,.sh (.int z),.ow G,.sh (.int k),.no,.no]=some (.br (.list (fS G none (some k)++[d]++fS G (some k) none)),[.sh d,.sh (.int z),.ow G,.sh (.int k),.no,.no]):=by
  unfold ag at a1 ⊢
  rw[a1]
  simp only[Z0,c2,g_,look,Sl.val,bS]
  rw[if_pos (by simp;omega)]
 rw[a2]
 rfl
theorem Hb(d:PyData)(z:Int)(x2 x3:Sl)(L:List PyData)(hl:L.length≤10)(f2:og x2=x2)(f3:og x3=x3):aD 5 (ag g_ false (aa 4) (ai av (ad false (aa 1) (ad false (pC (.int 12)) aj)))) [.sh d,.sh (.int z),x2,x3,.sh (.list L),.no]=some ([.sh d,.sh (.int z),x2,x3,.sh (.list L),.sh (.list (L++(bu z 12).map bN))],.nx):=by
 have w:ai av (ad false (aa 1) (ad false (pC (.int 12)) aj)) [.sh d,.sh (.int z),x2,x3,.sh (.list L),.no]=some (.ow ((bu z 12).map bN),[.sh d,.sh (.int z),x2,x3,.sh (.list L),.no]):=aE (ss:=[.sh (.int z),.sh (.int 12)]) rfl rfl (fF z 12 (by decide))
 have n:((bu z 12).map bN).length=12:=by rw[fH,dY]
 have a:ag g_ false (aa 4) (ai av (ad false (aa 1) (ad false (pC (.int 12)) aj))) [.sh d,.sh (.int z),x2,x3,.sh (.list L),.no]=some (.br (.list (L++(bu z 12).map bN)),[.sh d,.sh (.int z),x2,x3,.sh (.list L),.no]):=by
  have v:aa 4 [.sh d,.sh (.int z),x2,x3,.sh (.list L),.no]=some (.sh (.list L),[.sh d,.sh (.int z),x2,x3,.sh (.list L),.no]):=rfl
  unfold ag
  rw[v]
  simp only[Z0,w,g_,look,Sl.val,bS]
  rw[if_pos (by rw[n];omega)]
 unfold aD
 rw[a]
 simp only[Z0,PL.settle,cT,frzAll,dN,jh,f2,f3,bS]
 rfl
theorem nG(d:PyData)(hd:AR d)(z:Int):cK [d,.int z]=some (.sh (.bool true)):=by
 have nm:("NoNails":Str)∈(["NoNails","TooMany"]:List Str):=io ..
 have gl:=lY r_ none (some (z % 5))
 have gg:∀g∈fS r_ none (some (z % 5)),Gd g:=fun g hg=>EO g (wJ hg)
 have s2:=G9 d z .no .no .no
 generalize fS r_ none (some (z % 5))=G at gl gg s2
 have gl:G.length≤4:=gl
 have s3:=G_ d z G gl .no .no
 generalize z / 5 % ((G.length:Int)+1)=k at s3
 have s4:=Ha d z k G gl
 have hds:∀g∈fS G none (some k),Gd g:=fun g hg=>gg g (wJ hg)
 have n1:=lY G none (some k)
 have n2:=lY G (some k) none
 rw[show fS G none (some k)++[d]++fS G (some k) none=fS G none (some k)++d::fS G (some k) none by simp]at s4
 generalize fS G none (some k)=ds at hds n1 s4
 generalize fS G (some k) none=es at n2 s4
 have ll:(ds++d::es).length≤10:=by simp;omega
 have s7:=Hb d z (.sh (.list G)) (.sh (.int k)) (ds++d::es) ll rfl rfl
 have n:((bu z 12).map bN).length=12:=by rw[fH,dY]
 have r1:=lX (es:=es) hd hds (by omega)
 have r2:=m_ (es:=es) hd hds (by omega)
 have r3:=m_ (es:=es++(bu z 12).map bN) hd hds (by simp only[vH,Z4]at ll ⊢;omega)
 rw[show ds++d::(es++(bu z 12).map bN)=ds++d::es++(bu z 12).map bN by simp]at r3
 show dE 6 b8 [d,.int z]=_
 unfold dE
 show(b8 [.sh d,.sh (.int z),.no,.no,.no,.no]).bind _=_
 unfold b8
 rw[aL (kZ (i9 (ds:=[d]) rfl (gH (rs:=[.sh d]) (E1:=[.sh d]) (ds:=[d]) rfl rfl hd) nm x9)),aL s2,aL s3,aL s4]
 generalize ds++d::es=L at ll r1 r2 r3 s7 ⊢
 rw[aL (kZ (i9 (ds:=[.list L]) rfl (gH (rs:=[.sh (.list L)]) (E1:=[.sh (.list L)]) (ds:=[.list L]) rfl rfl r1) nm x9))]
 rw[aL (kZ (i9 (ds:=[.list L]) rfl (gH (rs:=[.sh (.list L)]) (E1:=[.sh (.list L)]) (ds:=[.list L]) rfl rfl r2) nm x9)),aL s7]
 have q:=i9 (E:=[.sh d,.sh (.int z),.sh (.list G),.sh (.int k),.sh (.list L),.sh (.list (L++(bu z 12).map bN))]) (js:=[5]) (n:=1) (due:=0) (ds:=[.list (L++(bu z 12).map bN)]) rfl (gH (g:=ad false (aa 0) aj) (rs:=[.sh (.list (L++(bu z 12).map bN))]) (E1:=[.sh (.list (L++(bu z 12).map bN))]) (ds:=[.list (L++(bu z 12).map bN)]) rfl rfl r3) nm x9
 unfold aO
 rw[q]
 rfl
theorem AC:(Str.ofString "abcd").cps.toList=[97,98,99,100]:=by decide+kernel
theorem AD:(Str.ofString "abcd").length=4:=by decide+kernel
theorem Hc(d:PyData)(z:Int)(a:Nat)(h:atI [97,98,99,100] (z / 7 % 4)=some a):aD 2 (cQ (ak (gJ (ak (ag lr false (pC (.str "abcd")) (ag b7 false (ag bo false (aa 1) (pC (.int 7))) (pC (.int 4)))) (ak (pC (.int 1)) bi))) (ak (gJ (ak (pC (.str "b")) (ak (ag b7 false (aa 1) (pC (.int 5))) bi))) (ak (gJ (ak (ag lr false (pC (.str "abcd")) (ag b7 false (ag bo false (aa 1) (pC (.int 7))) (pC (.int 4)))) (ak (iP nr (pC (.int 1))) bi))) bi)))) [.sh d,.sh (.int z),.no,.no]=some ([.sh d,.sh (.int z),.ow ([((a,1):Pc),(98,z % 5),(a,-1)].map aY),.no],.nx):=by
 have d1:eP (7:Int)=true:=by decide
 have d2:eP (4:Int)=true:=by decide
 have d3:eP (5:Int)=true:=by decide
 have e:ag lr false (pC (.str "abcd")) (ag b7 false (ag bo false (aa 1) (pC (.int 7))) (pC (.int 4))) [.sh d,.sh (.int z),.no,.no]=some (.sh (bN a),[.sh d,.sh (.int z),.no,.no]):=by
  simp only[ag,pC,Sl.isBr,aa,bo,fu,look,Sl.val,mi,Z0,b7,lr,gZ,fR,Z3,Z2,d1,Z1,Int.reduceLT,AD,Nat.reduceLeDiff,AC,h,bN,bS]
 have b:(Str.ofString "b")=⟨#[98]⟩:=by decide+kernel
 generalize ag lr false (pC (.str "abcd")) (ag b7 false (ag bo false (aa 1) (pC (.int 7))) (pC (.int 4)))=F at e ⊢
 simp only[aD,cQ,ak,gJ,e,bN,frz,pC,bi,Z1,Z0,Z4,Z5,Nat.reduceAdd,Nat.reduceLeDiff,b,ag,aa,Sl.isBr,b7,fu,look,Sl.val,mi,iP,nr,Int.reduceNeg,Z3,Z2,Int.reduceLT,PL.settle,frzAll,Nat.reduceLT,Z7,Z6,dN,aY,jh,bS]
theorem mR(d:PyData)(hd:AR d)(z:Int):cq [d,.int z]=some (.sh (.bool true)):=by
 have nm:("NoNails":Str)∈(["NoNails","TooMany"]:List Str):=io ..
 obtain⟨a,ha,e⟩:=r8 (l:=[97,98,99,100]) (i:=z / 7 % 4) (by omega) (by show z / 7 % 4 < 4;omega)
 have s1:=Hc d z a e
 have hn:NailsOk [((a,1):Pc),(98,z % 5),(a,-1)]:=by
  intro p hp
  have:a < 128:=by simp only[Zal,List.not_mem_nil,or_false]at ha;omega
  simp only[Zal,List.not_mem_nil,or_false]at hp
  rcases hp with rfl |rfl |rfl <;> simp <;> omega
 have eq:=zk hn hn
 generalize [((a,1):Pc),(98,z % 5),(a,-1)]=c at s1 eq
 have s2:aD 3 (jw (aa 2)) [.sh d,.sh (.int z),.ow (c.map aY),.no]=some ([.sh d,.sh (.int z),.ow (c.map aY),.ow (c.map aY)],.nx):=by
  simp only[aD,jw,aa,Z3,Z2,look,Sl.val,gZ,fR,Z0,Option.any_some,jy,Bool.or_true,PL.settle,frz,frzAll,Z4,Z5,Nat.reduceAdd,Nat.reduceLT,Z7,Z6,bS]
 have q:=i9 (E:=[.sh d,.sh (.int z),.ow (c.map aY),.ow (c.map aY)]) (js:=[2,0]) (n:=2) (due:=0) (ds:=[.list (c.map aY),d]) rfl (gH (g:=ad false (aa 0) (ad false (aa 1) aj)) (rs:=[.sh (.list (c.map aY)),.sh d]) (E1:=[.sh (.list (c.map aY)),.sh d]) (ds:=[.list (c.map aY),d]) rfl rfl (rZ (.list (c.map aY)) hd)) nm x9
 have r:ag jl false (aa 2) (aa 3) [.sh d,.sh (.int z),.ow (c.map aY),.ow (c.map aY)]=some (.sh (.bool true),[.sh d,.sh (.int z),.ow (c.map aY),.ow (c.map aY)]):=by
  have v2:aa 2 [.sh d,.sh (.int z),.ow (c.map aY),.ow (c.map aY)]=some (.al 2,[.sh d,.sh (.int z),.ow (c.map aY),.ow (c.map aY)]):=rfl
  have v3:aa 3 [.sh d,.sh (.int z),.ow (c.map aY),.ow (c.map aY)]=some (.al 3,[.sh d,.sh (.int z),.ow (c.map aY),.ow (c.map aY)]):=rfl
  unfold ag
  rw[v2,Option.bind_some]
  simp only[v3,Z0,jl,fu,look,Z3,Z2,Sl.val,eq,Z1,bS]
 show dE 4 bQ [d,.int z]=_
 unfold dE
 show(bQ [.sh d,.sh (.int z),.no,.no]).bind _=_
 unfold bQ
 rw[aL s1,aL s2]
 rw[aL (kZ (i9 (ds:=[.list (c.map aY),d]) rfl (gH (rs:=[.sh (.list (c.map aY)),.sh d]) (E1:=[.sh (.list (c.map aY)),.sh d]) (ds:=[.list (c.map aY),d]) rfl rfl (jP (.list (c.map aY)) hd)) nm x9))]
 unfold aO i_
 rw[q,Option.bind_some]
 simp only[Sl.val,ix,look,Z0,if_true]
 rw[r]
 rfl
theorem kD(x0:Sl):∀(c:List Pc) (st:List Pc) (a b d:Sl),st.length+c.length≤100000→∃a' b' d',eK a_ ba (c.map aY) [x0,.ow (st.reverse.map aY),a,b,d]=some ([x0,.ow ((c.foldl NH.stp st).reverse.map aY),a',b',d'],.nx)
 |[],st,a,b,d,_=>⟨a,b,d,rfl⟩
 |p::c,st,a,b,d,h=>by
  have step:∃a' b' d',(a_ (aY p) [x0,.ow (st.reverse.map aY),a,b,d]).bind ba=some ([x0,.ow ((NH.stp st p).reverse.map aY),a',b',d'],.nx):=by
   cases st with
   |nil=>
    by_cases z:p.2=0
    ·simp only[a_,kr,aY,z,Z4,Z5,Nat.reduceAdd,g5,aW,List.reverse_nil,jh,Nat.reduceLT,Z7,Z6,Z0,kq,List.isEmpty_nil,ba,jl,w6,aP,aD,aa,Z3,Z2,PL.settle,frz,frzAll,dD,jt,dh,Sl.val,gS,ag,Sl.isBr,iP,pC,look,nr,Z1,lr,gZ,fR,fu,q_,ck,bJ,fJ,eJ,gJ,ak,bi,ix,Option.any_some,Nat.reduceSub,fm,Nat.reduceLeDiff,Z8,NH.stp,bS]
     exact⟨_,_,_,rfl⟩
    ·simp only[a_,kr,aY,Z4,Z5,Nat.reduceAdd,g5,aW,List.reverse_nil,jh,Nat.reduceLT,Z7,Z6,Z0,kq,List.isEmpty_nil,ba,jl,w6,aP,aD,aa,Z3,Z2,PL.settle,frz,frzAll,dD,jt,dh,Sl.val,gS,ag,Sl.isBr,iP,pC,look,nr,Z1,lr,gZ,fR,fu,q_,ck,bJ,fJ,eJ,gJ,ak,bi,ix,Option.any_some,Nat.reduceSub,fm,z,Nat.reduceLeDiff,Z8,NH.stp,bS]
     exact⟨_,_,_,rfl⟩
   |cons q st=>
    have lb:st.length < 1000000∧st.length+1 < 1000000:=by simp at h;omega
    by_cases e:q.1=p.1
    ·by_cases z:q.2+p.2=0
     ·simp only[a_,kr,g5,aW,List.reverse_cons,List.map_append,dN,jh,Z4,Z5,Nat.reduceAdd,Nat.reduceLT,Z7,Z6,Z0,kq,ba,jl,w6,NH.stp,bS]
      simp only[aY,Z4,Z5,Nat.reduceAdd,List.isEmpty_nil,e,Z0,aP,aD,aa,Z3,Z2,PL.settle,frz,frzAll,Nat.reduceLT,Z7,Z6,dD,jt,dh,Sl.val,gS,ag,Sl.isBr,iP,pC,look,nr,Z1,lr,gZ,fR,fu,q_,ck,bJ,fJ,eJ,gJ,ak,bi,ix,nM,Option.any_some,nK,sT,nP,List.dropLast_concat,rh,y3,z,fm,Nat.reduceLeDiff,bS]
      simp[aY]
     ·simp only[a_,kr,g5,aW,List.reverse_cons,List.map_append,dN,jh,Z4,Z5,Nat.reduceAdd,Nat.reduceLT,Z7,Z6,Z0,kq,ba,jl,w6,NH.stp,bS]
      simp only[aY,Z4,Z5,Nat.reduceAdd,List.isEmpty_nil,e,Z0,aP,aD,aa,Z3,Z2,PL.settle,frz,frzAll,Nat.reduceLT,Z7,Z6,dD,jt,dh,Sl.val,gS,ag,Sl.isBr,iP,pC,look,nr,Z1,lr,gZ,fR,fu,q_,ck,bJ,fJ,eJ,gJ,ak,bi,ix,nM,Option.any_some,nK,sT,nP,List.dropLast_concat,rh,y3,fm,z,Nat.reduceLeDiff,fH,List.length_reverse,lb,bS]
      simp[aY]
    ·by_cases z:p.2=0
     ·simp only[a_,kr,g5,aW,List.reverse_cons,List.map_append,dN,jh,Z4,Z5,Nat.reduceAdd,Nat.reduceLT,Z7,Z6,Z0,kq,ba,jl,w6,NH.stp,bS]
      simp only[aY,z,Z4,Z5,Nat.reduceAdd,List.isEmpty_nil,Z0,aP,aD,aa,Z3,Z2,PL.settle,frz,frzAll,Nat.reduceLT,Z7,Z6,dD,jt,dh,Sl.val,gS,ag,Sl.isBr,iP,pC,look,nr,Z1,lr,gZ,fR,fu,q_,ck,bJ,fJ,eJ,gJ,ak,bi,ix,nM,Option.any_some,nK,sT,nP,wd,e,List.dropLast_concat,rh,y3,fm,Nat.reduceLeDiff,bS]
      simp[aY]
     ·simp only[a_,kr,g5,aW,List.reverse_cons,List.map_append,dN,jh,Z4,Z5,Nat.reduceAdd,Nat.reduceLT,Z7,Z6,Z0,kq,ba,jl,w6,NH.stp,bS]
      simp only[aY,Z4,Z5,Nat.reduceAdd,List.isEmpty_nil,Z0,aP,aD,aa,Z3,Z2,PL.settle,frz,frzAll,Nat.reduceLT,Z7,Z6,dD,jt,dh,Sl.val,gS,ag,Sl.isBr,iP,pC,look,nr,Z1,lr,gZ,fR,fu,q_,ck,bJ,fJ,eJ,gJ,ak,bi,ix,nM,Option.any_some,nK,sT,nP,wd,e,List.dropLast_concat,vH,fH,List.length_reverse,fm,z,Nat.reduceLeDiff,lb,bS]
      simp[aY]
  obtain⟨a',b',d',e⟩:=step
  have ih:=kD x0 c (NH.stp st p) a' b' d' (by have:=NH.Bv st p;simp at h;omega)
  obtain⟨a2,b2,d2,e2⟩:=ih
  refine⟨a2,b2,d2,?_⟩
  rw[dN,eK,e]
  exact e2
theorem pU(c:List Pc)(h:c.length≤100000):d0 [.list (c.map aY)]=some (.ow ((NH.short c).map aY)):=by
 obtain⟨a,b,d,e⟩:=kD (.sh (.list (c.map aY))) c [] .no .no .no (by simpa using h)
 simp only[List.reverse_nil,jh]at e
 simp only[d0,fz,Z4,Z5,dE,gN,aP,aD,cQ,bi,aX,dN,jh,Nat.reduceSub,List.replicate,Z9,Z8,Z0,Nat.reduceLeDiff,PL.settle,frz,frzAll,Nat.reduceAdd,Nat.reduceLT,Z7,Z6,ii,bt,aa,aO,Z2,e,Z3,Z1,dQ,bG,jy,Option.some.injEq,bS]
 rfl
theorem vD(c:List Pc)(h:c.length≤100000):fA [.list (c.map aY)]=some (.sh (.bool (decide (NH.short c=[])))):=by
 have e:decide (((NH.short c).length:Int)=0)=decide (NH.short c=[]):=by
  rw[Bool.eq_iff_iff]
  simp only[decide_eq_true_eq]
  rw[←List.length_eq_zero_iff]
  omega
 simp only[fA,fz,Z4,Z5,dE,j7,aO,ag,gA,ad,ai,aa,aX,dN,jh,Nat.sub_self,List.replicate,Z9,Z8,Z2,Sl.isBr,aj,Z1,Z0,cJ,look,Sl.val,pU c h,gB,fH,pC,jl,fu,fm,e,dQ,bG,cT,bS]
def CordL(c:List Pc):Prop:=∀p∈c,az p.1∧p.2.natAbs < 2 ^ 100
theorem CordL.az{c:List Pc}(h:CordL c):∀a∈c.map (·.1),az a:=fun a ha=>by
 obtain⟨p,hp,rfl⟩:=Zap.mp ha
 exact(h p hp).1
theorem nh:∀(c:List Pc) (x0 x1:Sl),dC gn cr gq (c.map aY) [x0,x1]=some ((c.map (·.1)).map bN)
 |[],x0,x1=>rfl
 |p::c,x0,x1=>by
  have e:(gn (aY p) [x0,x1])=some [.sh (.str ⟨#[p.1]⟩),.sh (.int p.2)]:=rfl
  have e2:gq [.sh (.str ⟨#[p.1]⟩),.sh (.int p.2)]=some (.sh (.str ⟨#[p.1]⟩),[.sh (.str ⟨#[p.1]⟩),.sh (.int p.2)]):=rfl
  rw[dN,dC,e,Option.bind_some]
  simp only[cr,frz,Z0,e2,nh c,Z1,if_true,dN,bN]
theorem ni{c:List Pc}(h:CordL c)(hl:c.length≤1000):cN [.list (c.map aY)]=some (.sh (.str ⟨(au (c.map (·.1))).toArray⟩)):=by
 have k:=nh c .no .no
 have az:=fun y hy=>i7 (h.az y hy)
 have d:=o9 az
 have d2:((c.map (·.1)).map fP).length < 4000∧(jD ((c.map (·.1)).map fP)).length < 64:=⟨by simp;omega,Nat.lt_of_le_of_lt (ww az) (by decide)⟩
 have l:=rW (au (c.map (·.1)))
 have l2:=qC (c.map (·.1))
 have l3:((c.map (·.1)).map bN).length≤1000000:=by simp;omega
 simp only[cN,fz,Z4,Z5,dE,i3,aO,e_,iP,jE,ce,bt,aa,aX,dN,jh,Nat.sub_self,List.replicate,Z9,Z8,Z2,frz,Z0,iS,sR,k,lT,l3,look,Sl.val,o_,d2,and_self,d,oo,pc,l,l2,pe,Z1,dQ,bG,cT,bS]
def stay(w:List Nat)(c:List Pc):List Pc:=c.filter fun p=> !decide (p.1∈w)
theorem wK{tg:gK}{cd:kG}{el:bH}{u:Sl}(w:List Nat)(ht:∀d x,tg d [x,u]=some [.sh d,u])(hc:∀p:Pc,cd [.sh (aY p),u]=some (!decide (p.1∈w),[.sh (aY p),u]))(hel:∀d,el [.sh d,u]=some (.sh d,[.sh d,u])):∀(c:List Pc) (x:Sl),dC tg cd el (c.map aY) [x,u]=some ((stay w c).map aY)
 |[],x=>rfl
 |p::c,x=>by
  rw[dN,dC,ht,Option.bind_some,hc,Option.bind_some]
  have ih:=wK w ht hc hel c (.sh (aY p))
  by_cases k:p.1∈w
  ·rw[stay,List.filter_cons_of_neg (by simpa using k)]
   simp only[k,bS]
   exact ih
  ·rw[stay,List.filter_cons_of_pos (by simpa using k)]
   simp only[k,hel,Z0,frz,ih,Z1,dN,bS]
   rfl
theorem AE{w:List Nat}(h:∀y∈w,az y){a:Nat}:a∈au w↔a∈w:=by
 rw[inOrd_mem]
 exact⟨fun z=>z.2,fun z=>⟨i7 (h a z),z⟩⟩
theorem vE{w:List Nat}(h:∀y∈w,az y)(c:List Pc):stay (au w) c=stay w c:=by
 unfold stay
 congr 1
 funext p
 rw[decide_eq_decide.mpr (AE h)]
theorem yb(w:List Nat)(p:Pc):eX [.sh (aY p),.sh (.str ⟨w.toArray⟩)]=some (!decide (p.1∈w),[.sh (aY p),.sh (.str ⟨w.toArray⟩)]):=by
 have o:=wv w p.1
 simp only[eX,gS,ag,aa,aY,Z2,Sl.isBr,pC,lr,look,Sl.val,gZ,fR,Z0,sT,Z1,C8,fu,EW,Z3,o,Bool.not_not,bS]
theorem ul(w:List Nat)(c:List Pc):(stay w c).length≤c.length:=List.length_filter_le _ _
theorem vF{w:List Nat}(h:∀y∈w,az y)(hl:w.length≤1000)(c:List Pc)(hc:c.length≤1000):fB [.list (c.map aY),.str ⟨w.toArray⟩]=some (.ow ((stay w c).map aY)):=by
 have s:=gj h (by omega)
 have k:=wK (tg:=gO) (cd:=eX) (el:=gP) (u:=.sh (.str ⟨(au w).toArray⟩)) (au w) (fun _ _=>rfl) (yb (au w)) (fun _=>rfl) c .no
 rw[vE h]at k
 have l3:((stay w c).map aY).length≤1000000:=by have:=ul w c;simp;omega
 have s2:aD 2 (ai bv (ad false (aa 1) aj)) [.sh (.list (c.map aY)),.sh (.str ⟨w.toArray⟩),.no]=some ([.sh (.list (c.map aY)),.sh (.str ⟨w.toArray⟩),.sh (.str ⟨(au w).toArray⟩)],.nx):=by
  simp only[aD,ai,ad,aa,Z3,Z2,Sl.isBr,aj,Z1,Z0,cJ,look,Sl.val,s,PL.settle,frz,frzAll,Z4,Z5,Nat.reduceAdd,Nat.reduceLT,Z7,Z6,bS]
 have g:j8=aP (aD 2 (ai bv (ad false (aa 1) aj))) (aO (ce [none,some 2] (bt (aa 0)) gO eX gP)):=rfl
 simp only[fB,fz,dE,aX,g,dN,jh,Z4,Z5,Nat.reduceSub,Nat.reduceAdd,Nat.zero_add,List.replicate,Z9,Z8,aL s2]
 simp only[aO,ce,bt,aa,Z2,frz,Z0,iS,dN,sR,jh,Z3,Sl.val,k,jy,l3,dQ,bG,bS]
theorem mS{w:List Nat}(h:∀y∈w,az y)(hl:w.length≤1000)(c:List Pc)(hc:c.length≤1000):bF [.list (c.map aY),.str ⟨w.toArray⟩]=some (.sh (.bool (decide (NH.short (stay w c)=[])))):=by
 have k:=vF h hl c hc
 have f:=vD (stay w c) (by have:=ul w c;omega)
 simp only[bF,fz,Z4,Z5,Nat.reduceAdd,dE,fq,aO,ai,ad,aa,aX,dN,jh,Nat.sub_self,List.replicate,Z9,Z8,Z2,Sl.isBr,aj,Z1,Z0,Z3,cJ,look,Sl.val,k,f,dQ,bG,cT,bS]
theorem AF{c:List PyData→Option Sl}{g:ln}{E E2:List Sl}{ss:List Sl}{ds:List PyData}{d:PyData}{i:Nat}(h:g E=some (ss,E))(hl:cJ E ss=some ds)(hc:c ds=some (.sh d))(hi:i < E.length)(hE:E.set i (.sh d)=E2):aD i (ai c g) E=some (E2,.nx):=by
 rw[←hE]
 exact mO (aE h hl hc) hi
theorem EQ{c:List Pc}(hc:c.length≤1000){w:List Nat}(h:∀y∈w,az y)(hl:w.length≤1000):cA [.sh (am w),.sh (.list (c.map aY))]=some (decide (NH.short (stay w c)=[]),[.sh (am w),.sh (.list (c.map aY))]):=by
 have k:ai bF (ad false (aa 1) (ad false (aa 0) aj)) [.sh (am w),.sh (.list (c.map aY))]=some (.sh (.bool (decide (NH.short (stay w c)=[]))),[.sh (am w),.sh (.list (c.map aY))]):=aE (ss:=[.sh (.list (c.map aY)),.sh (am w)]) rfl rfl (mS h hl c hc)
 unfold cA
 simp only[dh,k,Z0,look,Sl.val,ix,Z1]
theorem wL{c:List Pc}(hc:c.length≤1000):∀(F:List (List Nat)) (x:Sl),(∀w∈F,(∀y∈w,az y)∧w.length≤1000)→dC dl cA dm (F.map am) [x,.sh (.list (c.map aY))]=some ((F.filter fun w=>decide (NH.short (stay w c)=[])).map am)
 |[],x,_=>rfl
 |w::F,x,h=>by
  have hw:=h w (io ..)
  have t:dl (am w) [x,.sh (.list (c.map aY))]=some [.sh (am w),.sh (.list (c.map aY))]:=rfl
  have el:dm [.sh (am w),.sh (.list (c.map aY))]=some (.sh (am w),[.sh (am w),.sh (.list (c.map aY))]):=rfl
  rw[dN,Dg t (EQ hc hw.1 hw.2) el (wL hc F _ fun v hv=>h v (il _ hv)),List.filter_cons]
  split <;> rfl
structure FewV (V:List Nat):Prop where
 srt:NhFam.Srt V
 az:∀y∈V,az y
 len:V.length≤10
theorem FewV.sets{V:List Nat}(h:FewV V):∀w∈NhFam.hW V,(∀y∈w,Nhk37.az y)∧w.length≤1000:=fun w hw=>by
 obtain⟨s,l⟩:=(NhFam.jL h.srt).mp hw
 have:=(NhFam.dZ s h.srt l).length_le
 have:=h.len
 exact⟨fun y hy=>h.az y (l y hy),by omega⟩
theorem FewV.ltrs{V:List Nat}(h:FewV V):∀w∈NhFam.hW V,NH.oN w:=fun w hw a ha=>by
 have:=(h.sets w hw).1 a ha
 exact⟨this.1,this.2⟩
theorem FewV.num{V:List Nat}(h:FewV V):(NhFam.hW V).length≤1024:=by
 rw[NhFam.oQ]
 have:2 ^ V.length≤2 ^ 10:=Nat.pow_le_pow_right (by decide) h.len
 omega
theorem FewV.fit{V:List Nat}(h:FewV V)(p:List Nat→Bool):Fit ((NhFam.hW V).filter p):=
 ⟨by have:=List.length_filter_le p (NhFam.hW V);have:=h.num;omega,fun w hw=>⟨h.ltrs w (List.mem_filter.mp hw).1,(h.sets w (List.mem_filter.mp hw).1).2⟩⟩
def wM(c:List Pc)(w:List Nat):Bool:=decide (NH.short (stay w c)=[])
def um(c:List Pc)(V:List Nat):List (List Nat):=NhFam.aJ ((NhFam.hW V).filter (wM c))
theorem vG{c:List Pc}(kc:CordL c)(hc:c.length≤1000){V:List Nat}(hV:V=au (c.map (·.1)))(f:FewV V):aM [.list (c.map aY)]=some (.ow ((um c V).map am)):=by
 have en:cN [.list (c.map aY)]=some (.sh (am V)):=by rw[hV];exact ni kc hc
 have k1:aD 1 (ai cN (ad false (aa 0) aj)) [.sh (.list (c.map aY)),.no]=some ([.sh (.list (c.map aY)),.sh (am V)],.nx):=AF (ss:=[.sh (.list (c.map aY))]) rfl rfl en (show 1 < 2 by decide) rfl
 have k2:fJ (ai be (ad false (aa 1) aj)) [.sh (.list (c.map aY)),.sh (am V)]=some ([.sh (.list (c.map aY)),.sh (am V)],.nx):=wD (aE (ss:=[.sh (am V)]) rfl rfl (kB f.len))
 have it:bt (ai aU (ad false (aa 1) aj)) [.sh (.list (c.map aY)),.sh (am V)]=some ((NhFam.hW V).map am,[.sh (.list (c.map aY)),.sh (am V)]):=by
  have k:ai aU (ad false (aa 1) aj) [.sh (.list (c.map aY)),.sh (am V)]=some (.ow ((NhFam.hW V).map am),[.sh (.list (c.map aY)),.sh (am V)]):=aE (ss:=[.sh (am V)]) rfl rfl (Aj V f.len)
  unfold bt
  rw[k]
  rfl
 have lp:=wL hc (NhFam.hW V) .no f.sets
 have k3:=iv (js:=[none,some 0]) it lp (dM _) (by
  have:=List.length_filter_le (fun w=>decide (NH.short (stay w c)=[])) (NhFam.hW V)
  have:=f.num
  rw[fH]
  omega)
 have lo:=iu (f.fit (wM c))
 have k4:ai aT (ad false (ce [none,some 0] (bt (ai aU (ad false (aa 1) aj))) dl cA dm) aj) [.sh (.list (c.map aY)),.sh (am V)]=some (.ow ((um c V).map am),[.sh (.list (c.map aY)),.sh (am V)]):=by
  refine aE (ss:=[.ow (((NhFam.hW V).filter (wM c)).map am)]) ?_ rfl lo
  simp only[ad,aj,k3,Z0,Z1,bS]
  rfl
 have g:aM [.list (c.map aY)]=(eU [.sh (.list (c.map aY)),.no]).bind fun a=>match a.2 with |.rt r=>dQ r |.nx=>some (.sh .none) |_=>none:=rfl
 have fl:=dM (um c V)
 rw[g,eU,aL k1,aL k2]
 simp only[aO,k4,Z0,Z1,dQ,bG,fl,if_true]
theorem se{w:List Nat}(h:w.Nodup)(a:∀y∈w,az y):(au w).length=w.length:=
 (i8 (cS w).nodup h fun x=>⟨fun hx=>(inOrd_mem.mp hx).2,fun hx=>inOrd_mem.mpr ⟨i7 (a x hx),hx⟩⟩).length_eq
theorem jQ{w:List Nat}(a:∀y∈w,az y){x:Nat}:x∈au w↔x∈w:=⟨fun hx=>(inOrd_mem.mp hx).2,fun hx=>inOrd_mem.mpr ⟨i7 (a x hx),hx⟩⟩
theorem pq{V:List Nat}(sV:NhFam.Srt V):NhFam.Told V [V] (fun w=>NhFam.le V w):=by
 refine⟨List.pairwise_singleton _ _,fun w=>⟨fun hw=>?_,fun hw=>?_⟩⟩
 ·rw[Zab.mp hw]
  exact⟨⟨sV,NhFam.le.refl V⟩,NhFam.le.refl V,fun v hv hl l=>hv.1.ext sV hv.2 hl⟩
 ·exact Zab.mpr (hw.1.1.ext sV hw.1.2 hw.2.1)
theorem yc{V:List Nat}(sV:NhFam.Srt V):NhFam.Told V (V.map fun a=>[a]) (fun w=>∃x∈V,x∈w):=by
 refine⟨?_,fun w=>⟨fun hw=>?_,fun hw=>?_⟩⟩
 ·refine List.Pairwise.map _ (fun a b h=>?_) sV
  exact NhSG.ltKy_iff.mpr (.inr ⟨rfl,List.Lex.rel h⟩)
 ·obtain⟨a,ha,rfl⟩:=Zap.mp hw
  refine⟨⟨List.pairwise_singleton _ _,fun x hx=>by rw[Zab.mp hx];exact ha⟩,⟨a,ha,Zab.mpr rfl⟩,fun v hv ⟨x,hx,hxv⟩ l=>?_⟩
  have e:x=a:=Zab.mp (l x hxv)
  subst e
  exact hv.1.ext (List.pairwise_singleton _ _) l fun y hy=>by rw[Zab.mp hy];exact hxv
 ·obtain⟨hs,⟨x,hx,hxw⟩,m⟩:=hw
  have e:=m [x] ⟨List.pairwise_singleton _ _,fun y hy=>by rw[Zab.mp hy];exact hx⟩ ⟨x,hx,Zab.mpr rfl⟩ (fun y hy=>by rw[Zab.mp hy];exact hxw)
  exact Zap.mpr ⟨x,hx,e⟩
theorem uo(w:List Nat):(au w).length≤26:=kb (List.length_filter_le _ _) (by simp)
theorem wN{w:List Nat}(h:10 < w.length)(hl:w.length≤1000):cg [am w]=some ("TooMany":Str):=by
 refine rX (x:=("TooMany",[.sh (am w)])) rfl ?_
 show fN [.sh (am w)]=_
 have l:=j_ w
 have ll:w.length≤1000000:=by omega
 have g:decide ((10:Int) < (w.length:Int))=true:=decide_eq_true (by omega)
 have t:gS (ag (fu (g8 .gt)) false (gA gB (ad false (aa 0) aj)) (pC (.int 10))) [.sh (am w)]=some (true,[.sh (am w)]):=by
  simp only[gS,ag,gA,ad,aa,am,Z2,Sl.isBr,aj,Z1,Z0,gB,cJ,look,Sl.val,l,ll,pC,fu,g8,Cm.i,Cm.s,g,bS]
 unfold fN AO
 rw[t]
 rfl
theorem sf{g:dO}{r:iD}{E E1:List Sl}(h:g E=some (E1,.nx)):tF g r E=r E1:=by
 unfold tF
 rw[h]
theorem lZ{c:List Pc}(kc:CordL c)(hc:c.length≤1000)(h:10 < (au (c.map (·.1))).length):bV [.list (c.map aY)]=some ("TooMany":Str):=by
 have pn:=ni kc hc
 have l1:=uo (c.map (·.1))
 generalize au (c.map (·.1))=V at pn h l1
 refine rX (x:=("TooMany",[.sh (.list (c.map aY)),.sh (am V)])) rfl ?_
 show eW [.sh (.list (c.map aY)),.no]=_
 unfold eW
 rw[sf (AF (ss:=[.sh (.list (c.map aY))]) (ds:=[.list (c.map aY)]) (d:=am V) (E2:=[.sh (.list (c.map aY)),.sh (am V)]) rfl rfl pn (show 1 < 2 by decide) rfl)]
 exact gH (rs:=[.sh (am V)]) (ds:=[am V]) rfl rfl (wN h (by omega))
theorem si{c:List Pc}(kc:CordL c)(hc:c.length≤1000)(h:10 < (au (c.map (·.1))).length):dX [.list (c.map aY)]=some ("TooMany":Str):=
 rX (x:=("TooMany",[.sh (.list (c.map aY))])) rfl (gH (rs:=[.sh (.list (c.map aY))]) (ds:=[.list (c.map aY)]) rfl rfl (lZ kc hc h))
structure WrtA (W:List (List Nat)):Prop where
 az:∀t∈W,∀a∈t,az a
 tl:∀t∈W,t.length≤20
 len:W.length≤30
theorem WrtA.gd{W:List (List Nat)}(h:WrtA W):∀g∈W.map am,Gd g:=fun g hg=>by
 obtain⟨w,hw,rfl⟩:=Zap.mp hg
 exact⟨w,rfl,h.az w hw,by have:=h.tl w hw;omega⟩
theorem jR:∀(W:List (List Nat)) (x:Sl),(∀t∈W,∀a∈t,az a)→(∀t∈W,t.length≤20)→dC bg cr bh (W.map am) [x]=some ((cP W).map am)
 |[],x,_,_=>rfl
 |v::W,x,h,hl=>by
  have t:bg (am v) [x]=some [.sh (am v)]:=rfl
  have so:=gj (w:=v) (h v (io ..)) (by have:=hl v (io ..);omega)
  have e:bh [.sh (am v)]=some (.sh (am (au v)),[.sh (am v)]):=aE (ss:=[.sh (am v)]) rfl rfl so
  exact lS t e (jR W _ (fun v hv=>h v (il _ hv)) fun v hv=>hl v (il _ hv))
theorem WrtA.fit{W:List (List Nat)}(h:WrtA W):Fit (cP W):=by
 refine⟨by unfold cP;rw[fH];have:=h.len;omega,fun w hw=>?_⟩
 obtain⟨v,hv,rfl⟩:=Zap.mp hw
 refine⟨fun a ha=>?_,by have:=uo v;omega⟩
 have:=h.az v hv a (inOrd_mem.mp ha).2
 exact⟨this.1,this.2⟩
theorem pv{W:List (List Nat)}(h:WrtA W):aF [.list (W.map am)]=some (.ow ((NhFam.aJ (cP W)).map am)):=by
 have ls:(cP W).length=W.length:=by unfold cP;rw[fH]
 have hl:=h.len
 have c:ce [none] (bt (aa 0)) bg cr bh [.sh (.list (W.map am))]=some (.ow ((cP W).map am),[.sh (.list (W.map am))]):=iv rfl (jR W _ h.az h.tl) (dM _) (by rw[fH];omega)
 have b:ai aT (ad false (ce [none] (bt (aa 0)) bg cr bh) aj) [.sh (.list (W.map am))]=some (.ow ((NhFam.aJ (cP W)).map am),[.sh (.list (W.map am))]):=aE (ss:=[.ow ((cP W).map am)]) (by simp only[ad,aj,c,Z0,Z1,bS]) rfl (iu h.fit)
 have fl:=dM (NhFam.aJ (cP W))
 simp only[aF,fO,fz,dE,aX,aO,b,Z0,Z1,dQ,bG,fl,Z4,Z5,Nat.sub_self,List.replicate,dN,jh,qJ,Nat.reduceAdd,bS]
theorem nH{W:List (List Nat)}(h:WrtA W):aN [.list (W.map am)]=some (.sh (am (au W.flatten))):=by
 have fl:=ue h.tl
 have hl:=h.len
 have e:=gj (w:=W.flatten) (fun y hy=>by
  obtain⟨v,hv,hy⟩:=List.mem_flatten.mp hy
  exact h.az v hv y hy) (by omega)
 have l:=ud W
 have l2:W.flatten.length≤1000000:=by omega
 have j:=wB W
 have a:e_ "" (aa 0) [.sh (.list (W.map am))]=some (.sh (.str ⟨W.flatten.toArray⟩),[.sh (.list (W.map am))]):=by
  simp only[e_,iP,oo,aa,Z2,Z0,look,Sl.val,mP,l,l2,if_true,Z1,j]
 have b:ai bv (ad false (e_ "" (aa 0)) aj) [.sh (.list (W.map am))]=some (.sh (am (au W.flatten)),[.sh (.list (W.map am))]):=aE (ss:=[.sh (.str ⟨W.flatten.toArray⟩)]) (by simp only[ad,aj,a,Z0,Z1,bS]) rfl e
 have fx:cT (am (au W.flatten))=true:=rfl
 simp only[aN,fj,fz,dE,aX,aO,b,Z0,Z1,dQ,bG,fx,Z4,Z5,Nat.sub_self,List.replicate,dN,jh,qJ,Nat.reduceAdd,bS]
theorem yd{F:List (List Nat)}(h:∀v∈F,NhFam.Srt v):(NhFam.aJ F).length≤F.length:=by
 have t:=NhFam.ir (U:=F.flatten) (F:=F) fun v hv=>⟨h v hv,fun x hx=>List.mem_flatten.mpr ⟨v,hv,hx⟩⟩
 exact qF _ _ (NhFam.j5 t.srt) fun w hw=>((NhFam.vn fun v hv=>⟨h v hv,fun x hx=>List.mem_flatten.mpr ⟨v,hv,hx⟩⟩).mp ((t.mem w).mp hw)).1
theorem sj{W:List (List Nat)}(h:WrtA W)(hm:10 < (au W.flatten).length):bA [.list (W.map am)]=some ("TooMany":Str):=by
 have lf:(NhFam.aJ (cP W)).length≤(cP W).length:=yd fun v hv=>by
  obtain⟨w,_,rfl⟩:=Zap.mp hv
  exact cS w
 have ls:(cP W).length=W.length:=by unfold cP;rw[fH]
 have hl:=h.len
 have pl:=pv h
 have pn:=nH h
 have l1:=uo W.flatten
 have no:=pT h.gd (by rw[fH];omega)
 generalize cP W=F at pl lf ls
 generalize au W.flatten=V at pn hm l1
 have c1:ai aF (ad false (aa 0) aj) [.sh (.list (W.map am)),.no,.no]=some (.ow ((NhFam.aJ F).map am),[.sh (.list (W.map am)),.no,.no]):=aE (ss:=[.sh (.list (W.map am))]) rfl rfl pl
 have i1:bt (ai aF (ad false (aa 0) aj)) [.sh (.list (W.map am)),.no,.no]=some ((NhFam.aJ F).map am,[.sh (.list (W.map am)),.no,.no]):=by
  unfold bt
  rw[c1]
  rfl
 have p1:ce [none] (bt (ai aF (ad false (aa 0) aj))) aR cr aS [.sh (.list (W.map am)),.no,.no]=some (.ow ((NhFam.aJ F).map bO),[.sh (.list (W.map am)),.no,.no]):=iv i1 (mQ _ _) (qD _) (by rw[fH];omega)
 have s1:aD 1 (ce [none] (bt (ai aF (ad false (aa 0) aj))) aR cr aS) [.sh (.list (W.map am)),.no,.no]=some ([.sh (.list (W.map am)),.ow ((NhFam.aJ F).map bO),.no],.nx):=kY p1 (show 1 < 3 by decide)
 have c2:ai aN (ad false (aa 0) aj) [.sh (.list (W.map am)),.ow ((NhFam.aJ F).map bO),.no]=some (.sh (am V),[.sh (.list (W.map am)),.ow ((NhFam.aJ F).map bO),.no]):=aE (ss:=[.sh (.list (W.map am))]) rfl rfl pn
 have s2:aD 2 (ai aN (ad false (aa 0) aj)) [.sh (.list (W.map am)),.ow ((NhFam.aJ F).map bO),.no]=some ([.sh (.list (W.map am)),.ow ((NhFam.aJ F).map bO),.sh (am V)],.nx):=mO c2 (show 2 < 3 by decide)
 have r0:fE bI (ad false (aa 0) aj) [.sh (.list (W.map am)),.no,.no]=none:=Av (rs:=[.sh (.list (W.map am))]) (ds:=[.list (W.map am)]) rfl rfl no
 refine rX (x:=("TooMany",[.sh (.list (W.map am)),.ow ((NhFam.aJ F).map bO),.sh (am V)])) rfl ?_
 show eT [.sh (.list (W.map am)),.no,.no]=_
 unfold eT Er
 rw[r0]
 simp only
 rw[sf s1,sf s2]
 exact gH (rs:=[.sh (am V)]) (ds:=[am V]) rfl rfl (wN hm (by omega))
theorem nR{E:List Sl}{f:bH}{s:Sl}{w:List Nat}(hf:f E=some (s,E))(hs:look E s=some (.list (w.map bN)))(hl:w.length≤1000000):e_ "" f E=some (.sh (am w),E):=by
 have so:=m9 w
 have l:=rW w
 simp only[e_,iP,oo,hf,Z0,hs,so,l,hl,if_true,Z1,pe,am]
theorem qG{E:List Sl}{f:bH}{s:Sl}{w:List Nat}(hf:f E=some (s,E))(hs:look E s=some (.list (w.map bN)))(hl:w.length < 64)(n:w.Nodup)(a:∀y∈w,az y):iU f E=some (.ow ((au w).map bN),E):=by
 have l:(w.map fP).length < 64:=by rw[fH];exact hl
 have m:((au w).map fP).map PyData.str=(au w).map bN:=by rw[List.map_map];rfl
 simp only[iU,hf,Z0,hs,o_,l,if_true,xZ n a,m]
theorem CK{E:List Sl}{f:bH}{w:List Nat}(hf:f E=some (.sh (am w),E)):cQ (ak f bi) E=some (.ow [am w],E):=by
 have fl:cT (am w)=true:=rfl
 simp only[cQ,ak,bi,hf,Z0,frz,Z1,bE,fl,Bool.and_self,if_true,Z4,Z5]
 rfl
theorem iw(w:List Nat):w.map bN=(w.map fun a=>[a]).map am:=by rw[List.map_map];rfl
theorem Gc{f g:bH}{E:List Sl}{r:Option (Sl×List Sl)}(h:f E=some (.sh (.bool true),E))(k:g E=r):i_ f g E=r:=by
 unfold i_
 rw[h,Option.bind_some]
 exact k
theorem Gn{E:List Sl}{f g:bH}{s1 s2:Sl}{L:List (List Nat)}(hf:f E=some (s1,E))(hg:g E=some (s2,E))(l1:look E s1=some (.list (L.map am)))(l2:look E s2=some (.list (L.map am)))(h:∀w∈L,∀a∈w,az a):ag jl false f g E=some (.sh (.bool true),E):=by
 have d:=EL h
 unfold ag
 rw[hf,Option.bind_some]
 simp only[hg,Z0,jl,fu,l1,l2,d,Z1,bS]
structure Ten (w:List Nat):Prop where
 nd:w.Nodup
 az:∀y∈w,az y
 len:w.length=10
theorem Ten.uni{w:List Nat}(h:Ten w):Uni (au w):=⟨cS w,fun a ha=>h.az a ((jQ h.az).mp ha),by rw[se h.nd h.az,h.len];exact fQ _⟩
theorem uq(z:Int):Ten (bu z 10):=⟨la z 10 (by decide),ka z 10,dY z 10⟩
theorem Ten.vaz{w:List Nat}(h:Ten w):∀a∈au w,Nhk37.az a:=h.uni.lt
theorem AG(w:List Nat):au (au w)=au w:=Am (cS w) fun a ha=>by
 have:=List.mem_range'_1.mp (inOrd_mem.mp ha).1
 exact⟨this.1,this.2⟩
theorem Ten.meet1{w:List Nat}(h:Ten w)(v:List Nat)(hv:au v=au w)(vl:v.length≤20)(va:∀a∈v,a∈w):aG [.list ([v].map am)]=some (.ow ((au w).map bN)):=by
 have wr:Wrt (au w) [v]:=⟨fun t ht=>by
  rw[Zab.mp ht]
  exact fun a ha=>(jQ h.az).mpr (va a ha),fun t ht=>by rw[Zab.mp ht];exact vl,by simp⟩
 have e:=jg h.uni wr
 have t:=j6 h.uni wr
 rw[t.uniq (yc (cS w)) fun u hu=>?_,←iw]at e
 ·exact e
 ·show(∀s∈[au v],∃x∈s,x∈u)↔_
  simp[hv]
theorem Ten.meet2{w:List Nat}(h:Ten w):aG [.list (w.map bN)]=some (.ow [am (au w)]):=by
 have wr:Wrt (au w) (w.map fun a=>[a]):=⟨fun t ht=>by
  obtain⟨a,ha,rfl⟩:=Zap.mp ht
  exact fun x hx=>by rw[Zab.mp hx];exact(jQ h.az).mpr ha,fun t ht=>by
  obtain⟨a,ha,rfl⟩:=Zap.mp ht
  simp,by rw[fH,h.len];decide⟩
 have e:=jg h.uni wr
 have t:=j6 h.uni wr
 rw[t.uniq (pq (cS w)) fun u hu=>?_,←iw]at e
 ·exact e
 ·unfold cP
  constructor
  ·intro q x hx
   have hw:=(jQ h.az).mp hx
   obtain⟨y,hy,hyu⟩:=q (au [x]) (Zap.mpr ⟨[x],Zap.mpr ⟨x,hw,rfl⟩,rfl⟩)
   have:=Zab.mp (inOrd_mem.mp hy).2
   rw[←this];exact hyu
  ·intro q s hs
   obtain⟨s',hs',rfl⟩:=Zap.mp hs
   obtain⟨a,ha,rfl⟩:=Zap.mp hs'
   exact⟨a,inOrd_mem.mpr ⟨i7 (h.az a ha),Zab.mpr rfl⟩,q a ((jQ h.az).mpr ha)⟩
theorem sm{tg:gK}{el:bH}{u:Sl}(t:Int)(ht:∀d x,tg d [x,u]=some [.sh d,u])(hel:∀a:Nat,el [.sh (bN a),u]=some (.sh (aY (a,t)),[.sh (bN a),u])):∀(w:List Nat) (x:Sl),dC tg cr el (w.map bN) [x,u]=some ((w.map fun a=>((a,t):Pc)).map aY)
 |[],x=>rfl
 |a::w,x=>by
  rw[dN,dN,dN]
  exact lS (ht _ _) (hel a) (sm t ht hel w _)
theorem Hd(z:Int)(n:Nat)(hn:(n:Int)=11+z % 6)(x2 x3 x4 x5:Sl):aD 1 (ag ck false (pC (.int 11)) (ag b7 false (aa 0) (pC (.int 6)))) [.sh (.int z),.no,x2,x3,x4,x5]=some ([.sh (.int z),.sh (.int (n:Int)),x2,x3,x4,x5],.nx):=by
 have d1:eP (6:Int)=true:=by decide
 rw[hn]
 simp only[aD,ag,pC,Sl.isBr,aa,b7,fu,look,Sl.val,mi,Z0,ck,gZ,fR,Z2,Int.reduceLT,Z1,PL.settle,frz,frzAll,Z4,Z5,Nat.reduceAdd,Nat.reduceLT,Z7,Z6,bS]
theorem He(z n:Int)(x3 x4 x5:Sl):aD 2 (ag b7 false (ag bo false (aa 0) (pC (.int 6))) (pC (.int 3))) [.sh (.int z),.sh (.int n),.no,x3,x4,x5]=some ([.sh (.int z),.sh (.int n),.sh (.int (z / 6 % 3)),x3,x4,x5],.nx):=by
 have d1:eP (6:Int)=true:=by decide
 have d2:eP (3:Int)=true:=by decide
 simp only[aD,ag,aa,Z2,Sl.isBr,pC,bo,fu,look,Sl.val,mi,Z0,d1,Z1,b7,Int.reduceLT,PL.settle,frz,frzAll,Z4,Z5,Nat.reduceAdd,Nat.reduceLT,Z7,Z6,bS]
theorem Hf(z t:Int)(n:Nat)(hn:n≤16):aD 3 (ce [none,some 2] (bt (ai av (ad false (aa 0) (ad false (aa 1) aj)))) cX cr bZ) [.sh (.int z),.sh (.int (n:Int)),.sh (.int t),.no,.no,.no]=some ([.sh (.int z),.sh (.int (n:Int)),.sh (.int t),.ow (((bu z n).map fun a=>((a,t):Pc)).map aY),.no,.no],.nx):=by
 have w:ai av (ad false (aa 0) (ad false (aa 1) aj)) [.sh (.int z),.sh (.int (n:Int)),.sh (.int t),.no,.no,.no]=some (.ow ((bu z n).map bN),[.sh (.int z),.sh (.int (n:Int)),.sh (.int t),.no,.no,.no]):=aE (ss:=[.sh (.int z),.sh (.int (n:Int))]) rfl rfl (fF z n (by omega))
 have i:bt (ai av (ad false (aa 0) (ad false (aa 1) aj))) [.sh (.int z),.sh (.int (n:Int)),.sh (.int t),.no,.no,.no]=some ((bu z n).map bN,[.sh (.int z),.sh (.int (n:Int)),.sh (.int t),.no,.no,.no]):=by
  unfold bt
  rw[w]
  rfl
 have c:=sm (tg:=cX) (el:=bZ) (u:=.sh (.int t)) t (fun _ _=>rfl) (fun a=>by simp only[bZ,gJ,ak,aa,bN,Z2,frz,bi,Z1,Z0,Z3,Z4,Z5,Nat.reduceAdd,Nat.reduceLeDiff,aY,bS]) (bu z n) .no
 exact kY (iv i c (jy _) (by rw[fH,fH,dY];omega)) (show 3 < 6 by decide)
theorem Hg(z t:Int)(n:Nat)(h1:11≤n)(hn:n≤16)(x3:Sl):aD 4 (ag ck false (ai av (ad false (aa 0) (ad false (ag uO false (aa 1) (pC (.int 2))) aj))) (cQ (ak (e_ "" (ai av (ad false (aa 0) (ad false (aa 1) aj)))) bi))) [.sh (.int z),.sh (.int (n:Int)),.sh (.int t),x3,.no,.no]=some ([.sh (.int z),.sh (.int (n:Int)),.sh (.int t),x3,.ow (((bu z (n - 2)).map (fun a=>[a])++[bu z n]).map am),.no],.nx):=by
 generalize hE:[Sl.sh (PyData.int z),.sh (.int (n:Int)),.sh (.int t),x3,.no,.no]=E
 have e1:ai av (ad false (aa 0) (ad false (ag uO false (aa 1) (pC (.int 2))) aj)) E=some (.ow ((bu z (n - 2)).map bN),E):=by
  refine aE (ss:=[.sh (.int z),.sh (.int ((n:Int) - 2))]) ?_ (ds:=[.int z,.int ((n:Int) - 2)]) ?_ ?_
  ·rw[←hE];simp only[ad,aa,Z2,Sl.isBr,ag,pC,uO,fu,look,Sl.val,mi,Z0,aj,Z1,Z3,bS]
  ·rfl
  ·rw[show(n:Int) - 2=((n - 2:Nat):Int) by omega];exact fF z (n - 2) (by omega)
 have e2:ai av (ad false (aa 0) (ad false (aa 1) aj)) E=some (.ow ((bu z n).map bN),E):=aE (ss:=[.sh (.int z),.sh (.int (n:Int))]) (by rw[←hE];rfl) rfl (fF z n (by omega))
 have e3:=CK (nR e2 rfl (by rw[dY];omega))
 have l1:((bu z (n - 2)).map bN).length≤1000:=by rw[fH,dY];omega
 have a:ag ck false (ai av (ad false (aa 0) (ad false (ag uO false (aa 1) (pC (.int 2))) aj))) (cQ (ak (e_ "" (ai av (ad false (aa 0) (ad false (aa 1) aj)))) bi)) E=some (.ow ((bu z (n - 2)).map bN++[am (bu z n)]),E):=by
  generalize cQ (ak (e_ "" (ai av (ad false (aa 0) (ad false (aa 1) aj)))) bi)=G at e3 ⊢
  generalize ai av (ad false (aa 0) (ad false (ag uO false (aa 1) (pC (.int 2))) aj))=G1 at e1 ⊢
  unfold ag
  rw[e1,Option.bind_some]
  have ll:((bu z (n - 2)).map bN).length+1≤1000000:=by omega
  simp only[e3,Z0,ck,look,Sl.val,gZ,fR,List.length_singleton,ll,bS]
 rw[iw,show[am (bu z n)]=[bu z n].map am from rfl,←List.map_append]at a
 have q:=kY (i:=4) a (by rw[←hE];exact(by decide:4 < 6))
 rw[←hE]at q ⊢
 exact q
theorem ER(z:Int)(n:Nat):∀t∈(bu z (n - 2)).map (fun a=>[a])++[bu z n],∀a∈t,a∈bu z (n - 2)∨a∈bu z n:=by
 intro t ht a ha
 rcases Zan.mp ht with h |h
 ·obtain⟨b,hb,rfl⟩:=Zap.mp h
  rw[Zab.mp ha];exact .inl hb
 ·rw[Zab.mp h]at ha;exact .inr ha
theorem CL(z:Int)(n:Nat)(hn:n≤16):WrtA ((bu z (n - 2)).map (fun a=>[a])++[bu z n]):=by
 refine⟨fun t ht a ha=>(ER z n t ht a ha).elim (ka z _ a) (ka z _ a),fun t ht=>?_,by simp[dY];omega⟩
 rcases Zan.mp ht with h |h
 ·obtain⟨b,hb,rfl⟩:=Zap.mp h
  simp
 ·rw[Zab.mp h,dY];omega
theorem AH(z:Int)(n:Nat)(h1:11≤n)(hn:n≤16):10 < (au ((bu z (n - 2)).map (fun a=>[a])++[bu z n]).flatten).length:=by
 have l:=se (la z n (by omega)) (ka z n)
 rw[dY]at l
 have s:=NhFam.dZ (v:=au (bu z n)) (w:=au ((bu z (n - 2)).map (fun a=>[a])++[bu z n]).flatten) (cS _) (cS _) fun x hx=>inOrd_mem.mpr ⟨(inOrd_mem.mp hx).1,List.mem_flatten.mpr ⟨bu z n,pD _ (Zab.mpr rfl),(inOrd_mem.mp hx).2⟩⟩
 have:=s.length_le
 omega
theorem nI(z:Int):cL [.int z]=some (.sh (.bool true)):=by
 have nm:("TooMany":Str)∈(["NoNails","TooMany"]:List Str):=il _ (io ..)
 obtain⟨n,hn⟩:∃n:Nat,(n:Int)=11+z % 6:=⟨(11+z % 6).toNat,by omega⟩
 have h1:11≤n:=by omega
 have h2:n≤16:=by omega
 have s1:=Hd z n hn .no .no .no .no
 have s2:=He z n .no .no .no
 have t0:0≤z / 6 % 3:=by omega
 have t2:z / 6 % 3 < 3:=by omega
 generalize z / 6 % 3=t at s2 t0 t2
 have s3:=Hf z t n h2
 have kc:CordL ((bu z n).map fun a=>((a,t):Pc)):=fun p hp=>by
  obtain⟨a,ha,rfl⟩:=Zap.mp hp
  exact⟨ka z n a ha,by show t.natAbs < 2 ^ 100;exact kj (show t.natAbs < 3 by omega) (by decide)⟩
 have lc:((bu z n).map fun a=>((a,t):Pc)).length≤1000:=by rw[fH,dY];omega
 have hm:10 < (au (((bu z n).map fun a=>((a,t):Pc)).map (·.1))).length:=by
  rw[List.map_map,show((fun p:Pc=>p.1)∘fun a=>((a,t):Pc))=id from rfl,List.map_id,se (la z n (by omega)) (ka z n),dY]
  omega
 have r1:=lZ kc lc hm
 have r2:=si kc lc hm
 have r3:=sj (CL z n h2) (AH z n h1 h2)
 generalize (bu z n).map (fun a=>((a,t):Pc))=c at s3 r1 r2
 have s6:=Hg z t n h1 h2 (.ow (c.map aY))
 generalize (bu z (n - 2)).map (fun a=>[a])++[bu z n]=W at s6 r3
 have d4:eP (4:Int)=true:=by decide
 have T:=uq z
 show dE 6 b9 [.int z]=_
 unfold dE
 show(b9 [.sh (.int z),.no,.no,.no,.no,.no]).bind _=_
 unfold b9
 rw[aL s1,aL s2,aL s3]
 rw[aL (kZ (i9 (ds:=[.list (c.map aY)]) rfl (gH (rs:=[.sh (.list (c.map aY))]) (E1:=[.sh (.list (c.map aY))]) (ds:=[.list (c.map aY)]) rfl rfl r1) nm EM))]
 rw[aL (kZ (i9 (ds:=[.list (c.map aY)]) rfl (gH (rs:=[.sh (.list (c.map aY))]) (E1:=[.sh (.list (c.map aY))]) (ds:=[.list (c.map aY)]) rfl rfl r2) nm EM)),aL s6]
 rw[aL (kZ (i9 (ds:=[.list (W.map am)]) rfl (gH (rs:=[.sh (.list (W.map am))]) (E1:=[.sh (.list (W.map am))]) (ds:=[.list (W.map am)]) rfl rfl r3) nm EM))]
 generalize hE:[Sl.sh (PyData.int z),.sh (.int (n:Int)),.sh (.int t),.ow (c.map aY),.ow (W.map am),.no]=E
 have tst:gS (ag w6 false (ag b7 false (aa 0) (pC (.int 4))) (pC (.int 1))) E=some (decide (z % 4≠1),E):=by
  rw[←hE]
  simp only[gS,ag,aa,Z2,Sl.isBr,pC,b7,fu,look,Sl.val,mi,Z0,Int.reduceLT,Z1,w6,fm,decide_not,bS]
 by_cases h4:z % 4≠1
 ·rw[decide_eq_true h4]at tst
  have q:(dD (gS (ag w6 false (ag b7 false (aa 0) (pC (.int 4))) (pC (.int 1)))) (aO (pC (.bool true))) bJ) E=some (E,.rt (.sh (.bool true))):=mM tst rfl
  unfold aP
  rw[q]
  rfl
 ·rw[decide_eq_false h4]at tst
  rw[aL (jf tst rfl)]
  have w:ai av (ad false (aa 0) (ad false (pC (.int 10)) aj)) E=some (.ow ((bu z 10).map bN),E):=aE (ss:=[.sh (.int z),.sh (.int 10)]) (by rw[←hE];rfl) rfl (fF z 10 (by decide))
  have s9:=kY (i:=5) w (by rw[←hE];exact(by decide:5 < 6))
  rw[aL s9]
  generalize hF:E.set 5 (.ow ((bu z 10).map bN))=F
  have v5:aa 5 F=some (.al 5,F):=by rw[←hF,←hE];rfl
  have lk:look F (.al 5)=some (.list ((bu z 10).map bN)):=by rw[←hF,←hE];rfl
  generalize bu z 10=u at T lk
  have so:=qG v5 lk (by rw[T.len];decide) T.nd T.az
  have ju:=nR v5 lk (by rw[T.len];decide)
  have js:=CK (nR so rfl (by have:=uo u;omega))
  have lu:jw (aa 5) F=some (.ow (u.map bN),F):=by
   unfold jw
   rw[v5,Option.bind_some]
   simp only[lk,iw,dM,Bool.or_true,if_true]
  have m1:ai aG (ad false (jw (aa 5)) aj) F=some (.ow [am (au u)],F):=aE (ss:=[.ow (u.map bN)]) (by simp only[ad,aj,lu,Z0,Z1,bS]) rfl T.meet2
  have m2:ai aG (ad false (cQ (ak (e_ "" (aa 5)) bi)) aj) F=some (.ow ((au u).map bN),F):=aE (ss:=[.ow [am u]]) (by simp only[ad,aj,CK ju,Z0,Z1,bS]) rfl (T.meet1 u rfl (by rw[T.len];decide) fun a ha=>ha)
  have q1:=Gn (L:=[au u]) m1 js rfl rfl fun w hw a ha=>by rw[Zab.mp hw]at ha;exact T.vaz a ha
  have q2:=Gn (L:=(au u).map fun a=>[a]) m2 so (by show some (PyData.list ((au u).map bN))=_;rw[iw]) (by show some (PyData.list ((au u).map bN))=_;rw[iw]) fun w hw a ha=>by
   obtain⟨b,hb,rfl⟩:=Zap.mp hw
   rw[Zab.mp ha];exact T.vaz b hb
  unfold aO
  rw[Gc q1 q2]
  rfl
theorem ye{c:List Pc}{V:List Nat}:NhFam.z_ V (fun w=>NH.short (stay w c)=[]):=fun v w _ _ l h=>by
 have e:stay w c=NH.fG (fun n=>(!decide (n∈w))&&(!decide (n∈v))) c:=by
  show List.filter _ c=List.filter _ c
  congr 1
  funext p
  by_cases a:p.1∈v
  ·simp[a,l _ a]
  ·simp[a]
 show NH.short (stay w c)=[]
 rw[e]
 exact NH.vk (fun n=> !decide (n∈w)) (fun n=> !decide (n∈v)) h
theorem yf{c:List Pc}{V:List Nat}(sV:NhFam.Srt V):NhFam.Told V (um c V) (fun w=>NH.short (stay w c)=[]):=by
 refine NhFam.tW sV sV (NhFam.le.refl V) ye (fun w=>?_) fun w hw h=>?_
 ·rw[List.mem_filter,NhFam.jL sV]
  unfold wM
  rw[decide_eq_true_iff]
 ·have e:(w.filter fun x=>decide (x∈V))=w:=List.filter_eq_self.mpr fun x hx=>decide_eq_true (hw.2 x hx)
  rw[e]
  exact h
theorem qH:∀{c:List Pc},(c.map (·.1)).Nodup→(∀p∈c,p.2≠0)→NH.Red c
 |[],_,_=>trivial
 |[p],_,h=>h p (io ..)
 |p::q::r,n,h=>by
  refine⟨h p (io ..),fun e=>?_,qH (c:=q::r) (List.nodup_cons.mp n).2 fun x hx=>h x (il _ hx)⟩
  exact(List.nodup_cons.mp n).1 (Zal.mpr (.inl e))
theorem AI{u:List Nat}(T:Ten u){t:Int}(ht:t≠0):um (u.map fun a=>((a,t):Pc)) (au u)=[au u]:=by
 refine(yf (cS u)).uniq (pq (cS u)) fun w hw=>?_
 constructor
 ·intro h x hx
  refine Classical.byContradiction fun hxw=>?_
  have hu:=(jQ T.az).mp hx
  have nd:((stay w (u.map fun a=>((a,t):Pc))).map (·.1)).Nodup:=by
   refine List.Nodup.sublist (List.Sublist.map _ List.filter_sublist) ?_
   rw[List.map_map,show((fun p:Pc=>p.1)∘fun a=>((a,t):Pc))=id from rfl,List.map_id]
   exact T.nd
  have nz:∀p∈stay w (u.map fun a=>((a,t):Pc)),p.2≠0:=fun p hp=>by
   obtain⟨a,_,rfl⟩:=Zap.mp (List.mem_filter.mp hp).1
   exact ht
  rw[NH.rT (qH nd nz)]at h
  have m:((x,t):Pc)∈stay w (u.map fun a=>((a,t):Pc)):=List.mem_filter.mpr ⟨Zap.mpr ⟨x,hu,rfl⟩,by simp[hxw]⟩
  rw[h]at m
  cases m
 ·intro h
  have e:stay w (u.map fun a=>((a,t):Pc))=[]:=by
   refine List.filter_eq_nil_iff.mpr fun p hp=>?_
   obtain⟨a,ha,rfl⟩:=Zap.mp hp
   simp[h a ((jQ T.az).mpr ha)]
  show NH.short (stay w (u.map fun a=>((a,t):Pc)))=[]
  rw[e]
  rfl
theorem nj{u:List Nat}(T:Ten u){t:Int}(h0:0 < t)(h3:t≤3):aM [.list ((u.map fun a=>((a,t):Pc)).map aY)]=some (.ow [am (au u)]):=by
 have e1:(u.map fun a=>((a,t):Pc)).map (·.1)=u:=by rw[List.map_map,show((fun p:Pc=>p.1)∘fun a=>((a,t):Pc))=id from rfl,List.map_id]
 have kc:CordL (u.map fun a=>((a,t):Pc)):=fun p hp=>by
  obtain⟨a,ha,rfl⟩:=Zap.mp hp
  exact⟨T.az a ha,by show t.natAbs < 2 ^ 100;exact kj (show t.natAbs < 4 by omega) (by decide)⟩
 have e:=vG kc (by rw[fH,T.len];decide) (V:=au u) (by rw[e1]) ⟨T.uni.srt,T.uni.lt,T.uni.len⟩
 rw[AI T (by omega)]at e
 exact e
theorem ur{u:List Nat}(T:Ten u){t:Int}(h0:0 < t)(h3:t≤3):c_ [.list ((u.map fun a=>((a,t):Pc)).map aY)]=some (.ow ((au u).map bN)):=by
 have f:=nj T h0 h3
 have m:=T.meet1 (au u) (AG u) (by have:=T.uni.len;omega) fun a ha=>(jQ T.az).mp ha
 generalize (u.map fun a=>((a,t):Pc))=c at f
 have c1:ai aM (ad false (aa 0) aj) [.sh (.list (c.map aY))]=some (.ow [am (au u)],[.sh (.list (c.map aY))]):=aE (ss:=[.sh (.list (c.map aY))]) rfl rfl f
 have c2:ai aG (ad false (ai aM (ad false (aa 0) aj)) aj) [.sh (.list (c.map aY))]=some (.ow ((au u).map bN),[.sh (.list (c.map aY))]):=aE (ss:=[.ow [am (au u)]]) (by simp only[ad,aj,c1,Z0,Z1,bS]) rfl m
 have fl:=lT (au u)
 show dE 1 dI [.list (c.map aY)]=_
 unfold dE
 show(dI [.sh (.list (c.map aY))]).bind _=_
 unfold dI aO
 rw[c2]
 show dQ (.ow ((au u).map bN))=_
 show(if bG (.ow ((au u).map bN))then _ else _)=_
 rw[if_pos (show bG (.ow ((au u).map bN))=true from fl)]
theorem ut(z:Int):de [.int z]=some (.sh (.bool true)):=by
 have T:=uq z
 have d3:eP (3:Int)=true:=by decide
 have w:ai av (ad false (aa 0) (ad false (pC (.int 10)) aj)) [.sh (.int z),.no,.no]=some (.ow ((bu z 10).map bN),[.sh (.int z),.no,.no]):=aE (ss:=[.sh (.int z),.sh (.int 10)]) rfl rfl (fF z 10 (by decide))
 have s1:aD 1 (ai av (ad false (aa 0) (ad false (pC (.int 10)) aj))) [.sh (.int z),.no,.no]=some ([.sh (.int z),.ow ((bu z 10).map bN),.no],.nx):=kY w (show 1 < 3 by decide)
 generalize bu z 10=u at T s1
 have h0:0 < 1+z % 3:=by omega
 have h3:1+z % 3≤3:=by omega
 have el:∀a:Nat,cB [.sh (bN a),.sh (.int z)]=some (.sh (aY (a,1+z % 3)),[.sh (bN a),.sh (.int z)]):=fun a=>by
  simp only[cB,gJ,ak,aa,bN,Z2,frz,ag,pC,Sl.isBr,b7,fu,look,Sl.val,mi,Z0,ck,gZ,fR,bi,Z1,Z3,Int.reduceLT,Z4,Z5,Nat.reduceAdd,Nat.reduceLeDiff,aY,bS]
 have f:=nj T h0 h3
 have hd:=ur T h0 h3
 have i:bt (aa 1) [.sh (.int z),.ow (u.map bN),.no]=some (u.map bN,[.sh (.int z),.sh (.list (u.map bN)),.no]):=rfl
 have c:=sm (tg:=eM) (el:=cB) (u:=.sh (.int z)) (1+z % 3) (fun _ _=>rfl) el u .no
 have s2:aD 2 (ce [none,some 0] (bt (aa 1)) eM cr cB) [.sh (.int z),.ow (u.map bN),.no]=some ([.sh (.int z),.sh (.list (u.map bN)),.ow ((u.map fun a=>((a,1+z % 3):Pc)).map aY)],.nx):=kY (iv i c (jy _) (by rw[fH,fH,T.len];decide)) (show 2 < 3 by decide)
 generalize (u.map fun a=>((a,1+z % 3):Pc))=cd at s2 f hd
 generalize hF:[Sl.sh (PyData.int z),.sh (.list (u.map bN)),.ow (cd.map aY)]=F at s2
 have v1:aa 1 F=some (.sh (.list (u.map bN)),F):=by rw[←hF];rfl
 have so:=qG v1 rfl (by rw[T.len];decide) T.nd T.az
 have js:=CK (nR so rfl (by have:=uo u;omega))
 have m1:ai aM (ad false (aa 2) aj) F=some (.ow [am (au u)],F):=aE (ss:=[.al 2]) (by rw[←hF];rfl) (by rw[←hF];rfl) f
 have m2:ai c_ (ad false (aa 2) aj) F=some (.ow ((au u).map bN),F):=aE (ss:=[.al 2]) (by rw[←hF];rfl) (by rw[←hF];rfl) hd
 have q1:=Gn (L:=[au u]) m1 js rfl rfl fun w hw a ha=>by rw[Zab.mp hw]at ha;exact T.vaz a ha
 have q2:=Gn (L:=(au u).map fun a=>[a]) m2 so (by show some (PyData.list ((au u).map bN))=_;rw[iw]) (by show some (PyData.list ((au u).map bN))=_;rw[iw]) fun w hw a ha=>by
  obtain⟨b,hb,rfl⟩:=Zap.mp hw
  rw[Zab.mp ha];exact T.vaz b hb
 show dE 3 dJ [.int z]=_
 unfold dE
 show(dJ [.sh (.int z),.no,.no]).bind _=_
 unfold dJ
 rw[aL s1,aL s2]
 unfold aO
 rw[Gc q1 q2]
 rfl
theorem CM{f:bH}{E:List Sl}{d:PyData}{i:Nat}(h:f E=some (Gb d,E))(hf:frzAll E=E)(hi:i < E.length):aD i f E=some (E.set i (.sh d),.nx):=by
 unfold aD
 rw[h,Option.bind_some]
 unfold Gb
 by_cases q:cT d=true
 ·rw[if_pos q]
  show(if i < E.length then _ else _)=_
  rw[if_pos hi]
 ·rw[if_neg q]
  simp only[PL.settle,q,hf,Z0,bS]
  rw[if_pos hi]
theorem Di{f:List PyData→Option Sl}{g:bH}{E E1:List Sl}{d:PyData}{r:Sl}(h:g E=some (.sh d,E1))(hf:f [d]=some r):ai f (ad false g aj) E=some (r,E1):=by
 simp only[ai,ad,aj,h,Z0,Z1,cJ,look,Sl.val,hf,bS]
theorem CN{f:bH}{E:List Sl}(h:f E=some (.sh (.bool true),E)):cG (dh f) E=some (false,E):=by
 simp only[cG,dh,h,Z0,Sl.val,ix,Z1,Bool.not_true]
theorem HB{a b:kG}{E:List Sl}(h:a E=some (false,E))(k:b E=some (false,E)):yQ a b E=some (false,E):=by
 simp only[yQ,h,k,Z0,bS]
theorem sq{p:P2}{f g:bH}{E E1 E2:List Sl}{a b:Sl}{r:Option (Sl×List Sl)}(h1:f E=some (a,E1))(h2:g E1=some (b,E2))(h3:p E2 a b=r):ag p false f g E=r:=by
 unfold ag
 rw[h1]
 simp only[Z0,bS]
 rw[h2]
 exact h3
theorem wO{f:List PyData→Option Sl}{g h:bH}{E:List Sl}{a b:PyData}{r:Sl}(hg:g E=some (.sh a,E))(hh:h E=some (.sh b,E))(hf:f [a,b]=some r):ai f (ad false g (ad false h aj)) E=some (r,E):=by
 simp only[ai,ad,aj,hg,hh,Z0,Z1,cJ,look,Sl.val,hf,bS]
theorem Ge(S:PyData)(z:Int)(x:Sl)(hx:og x=x):∃d,iL [.sh S,.sh (.int z),x]=some ([.sh S,.sh (.int z),.sh d],.nx):=by
 obtain⟨d,e,hb⟩:=vC z
 refine⟨d,?_⟩
 have c:ai fD (ad false (aa 1) aj) [.sh S,.sh (.int z),x]=some (Gb d,[.sh S,.sh (.int z),x]):=aE (ss:=[.sh (.int z)]) rfl rfl e
 have s1:aD 2 (ai fD (ad false (aa 1) aj)) [.sh S,.sh (.int z),x]=some ([.sh S,.sh (.int z),.sh d],.nx):=CM c (by simp only[frzAll,dN,jh,hx];rfl) (show 2 < 3 by decide)
 have d2:eP (2:Int)=true:=by decide
 have d3:eP (3:Int)=true:=by decide
 have d5:eP (5:Int)=true:=by decide
 have v0:aa 2 [.sh S,.sh (.int z),.sh d]=some (.sh d,[.sh S,.sh (.int z),.sh d]):=rfl
 have v2:ag bo false (aa 1) (pC (.int 2)) [.sh S,.sh (.int z),.sh d]=some (.sh (.int (z / 2)),[.sh S,.sh (.int z),.sh d]):=by simp only[ag,aa,Z3,Z2,Sl.isBr,pC,bo,fu,look,Sl.val,mi,Z0,d2,Z1,bS]
 have v3:ag bo false (aa 1) (pC (.int 3)) [.sh S,.sh (.int z),.sh d]=some (.sh (.int (z / 3)),[.sh S,.sh (.int z),.sh d]):=by simp only[ag,aa,Z3,Z2,Sl.isBr,pC,bo,fu,look,Sl.val,mi,Z0,d3,Z1,bS]
 have v5:ag bo false (aa 1) (pC (.int 5)) [.sh S,.sh (.int z),.sh d]=some (.sh (.int (z / 5)),[.sh S,.sh (.int z),.sh d]):=by simp only[ag,aa,Z3,Z2,Sl.isBr,pC,bo,fu,look,Sl.val,mi,Z0,d5,Z1,bS]
 have q1:=CN (wO v0 v2 (nG d hb (z / 2)))
 have q2:=CN (wO v0 v3 (mR d hb (z / 3)))
 have q3:=CN (Di v5 (nI (z / 5)))
 unfold iL
 rw[aL s1,aL (jf (HB q1 q2) rfl)]
 exact jf q3 rfl
theorem AJ(S:PyData):∀(zs:List Int) (a b:Sl),og b=b→∃a' b',eK jN iL (zs.map .int) [.sh S,a,b]=some ([.sh S,a',b'],.nx)
 |[],a,b,_=>⟨a,b,rfl⟩
 |z::zs,a,b,hb=>by
  obtain⟨d,e3⟩:=Ge S z b hb
  obtain⟨a',b',ih⟩:=AJ S zs (.sh (.int z)) (.sh d) rfl
  refine⟨a',b',?_⟩
  have e1:jN (.int z) [.sh S,a,b]=some [.sh S,.sh (.int z),b]:=rfl
  rw[dN,eK,e1,Option.bind_some,e3]
  exact ih
theorem ES(ns:List Int)(h:ns.length≤63):mF [.list (ns.map .int)]=some (.sh (.bool true)):=by
 generalize hE:[Sl.sh (PyData.list (ns.map .int)),.no,.no]=E
 have v0:aa 0 E=some (.sh (.list (ns.map .int)),E):=by rw[←hE];rfl
 have at0:ai bw (ad false (aa 0) (ad false (pC (.int 0)) aj)) E=some (.sh (.int (ns.getD 0 0)),E):=wO v0 rfl (qA ns 0)
 have at1:ai bw (ad false (aa 0) (ad false (pC (.int 1)) aj)) E=some (.sh (.int (ns.getD 1 0)),E):=wO v0 rfl (qA ns 1)
 have d16:(0:Int) < 16:=by decide
 have b0:ag b7 false (ai bw (ad false (aa 0) (ad false (pC (.int 0)) aj))) (pC (.int 16)) E=some (.sh (.int (ns.getD 0 0 % 16)),E):=sq at0 rfl rfl
 have b1:ag bo false (ai bw (ad false (aa 0) (ad false (pC (.int 0)) aj))) (pC (.int 16)) E=some (.sh (.int (ns.getD 0 0 / 16)),E):=sq at0 rfl rfl
 have t1:=Af b0 (show pC (.int 5) E=some (.sh (.int 5),E)from rfl)
 have t2:=CN (Di b1 (ut (ns.getD 0 0 / 16)))
 have tt:jt (gS (ag jl false (ag b7 false (ai bw (ad false (aa 0) (ad false (pC (.int 0)) aj))) (pC (.int 16))) (pC (.int 5)))) (cG (dh (ai de (ad false (ag bo false (ai bw (ad false (aa 0) (ad false (pC (.int 0)) aj))) (pC (.int 16))) aj)))) E=some (false,E):=by
  unfold jt
  rw[t1,Option.bind_some]
  by_cases q:ns.getD 0 0 % 16=5
  ·simp only[decide_eq_true q,if_true];exact t2
  ·simp only[decide_eq_false q,bS]
 have c1:fe false (aa 0) cH (cI (pC (.int 16))) E=some (.ow ((uS ns none (some 16)).map .int),E):=by
  rw[←y7,←hE]
  rfl
 have l1:cQ (ak (ag ck false (ai bw (ad false (aa 0) (ad false (pC (.int 1)) aj))) (pC (.int 5))) bi) E=some (.ow [.int (ns.getD 1 0+5)],E):=by
  have b:=sq (p:=ck) (r:=some (.sh (.int (ns.getD 1 0+5)),E)) at1 (show pC (.int 5) E=some (.sh (.int 5),E)from rfl) rfl
  generalize ag ck false (ai bw (ad false (aa 0) (ad false (pC (.int 1)) aj))) (pC (.int 5))=f at b ⊢
  simp only[cQ,ak,bi,Z0,b,frz,Z1]
  rfl
 have bb:ag ck false (fe false (aa 0) cH (cI (pC (.int 16)))) (cQ (ak (ag ck false (ai bw (ad false (aa 0) (ad false (pC (.int 1)) aj))) (pC (.int 5))) bi)) E=some (.ow ((uS ns none (some 16)++[ns.getD 1 0+5]).map .int),E):=by
  refine sq c1 l1 ?_
  have hl:=y8 ns none (some 16)
  simp only[ck,look,Sl.val,Z0,gZ,fR,bS]
  rw[if_pos (by simp;omega),List.map_append]
  rfl
 obtain⟨a',b',lp⟩:=AJ (.list (ns.map .int)) (uS ns none (some 16)++[ns.getD 1 0+5]) .no .no rfl
 have s1:ii (bt (ag ck false (fe false (aa 0) cH (cI (pC (.int 16)))) (cQ (ak (ag ck false (ai bw (ad false (aa 0) (ad false (pC (.int 1)) aj))) (pC (.int 5))) bi)))) jN iL E=some ([.sh (.list (ns.map .int)),a',b'],.nx):=by
  unfold ii bt
  rw[bb]
  simp only[Z0,look,Sl.val,frz,Z1]
  rw[←hE]
  exact lp
 show dE 3 qz [.list (ns.map .int)]=_
 unfold dE
 show(qz [.sh (.list (ns.map .int)),.no,.no]).bind _=_
 unfold qz
 rw[hE,aL (jf tt rfl),aL s1]
 rfl
end Nhk37
namespace Nhk37
open PySem L2 Nh PL
theorem iO{fd:FuncData}{xs:List Str}(h:∀a0,bindArgs fd ⟨[a0],[]⟩=pure (xs.zip [a0])):∀us:List Value,us.length=1→bindArgs fd ⟨us,[]⟩=pure (xs.zip us)
 |[a0],_=>h a0
theorem sr{fd:FuncData}{xs:List Str}(h:∀a0 a1,bindArgs fd ⟨[a0,a1],[]⟩=pure (xs.zip [a0,a1])):∀us:List Value,us.length=2→bindArgs fd ⟨us,[]⟩=pure (xs.zip us)
 |[a0,a1],_=>h a0 a1
theorem ET {l:OpenLaw} {w:World} {K:Frag} {h:Heap} {mg:Str→Option Value} {fa f1 f2 f3 f4 f5 f6 f7 f8 f9 f10 f11 f12 f13 f14 f15 f16 f17 f18 f19 f20 f21 f22 f23 f24 f25 f26 f27 f28 f29 f30:Addr} (X:K.In h) (G:h.Ns mainGlobals mg) (hfa:mg "law"=some (.ref fa))
  {od1 od2 od3 od4 od5 od6 od7 od8 od9 od10 od11 od12 od13 od14 od15 od16 od17 od18 od19 od20 od21 od22 od23 od24 od25 od26 od27 od28 od29 od30 an1 an2 an3 an4 an5 an6 an7 an8 an9 an10 an11 an12 an13 an14 an15 an16 an17 an18 an19 an20 an21 an22 an23 an24 an25 an26 an27 an28 an29 an30:Option Addr} {sl1 sl2 sl3 sl4 sl5 sl6 sl7 sl8 sl9 sl10 sl11 sl12 sl13 sl14 sl15 sl16 sl17 sl18 sl19 sl20 sl21 sl22 sl23 sl24 sl25 sl26 sl27 sl28 sl29 sl30:Array (Option Value)} {oc1 kV1 dc1 pm1 cd1 ct1 oc2 kV2 dc2 pm2 cd2 ct2 oc3 kV3 dc3 pm3 cd3 ct3 oc4 kV4 dc4 pm4 cd4 ct4 oc5 kV5 dc5 pm5 cd5 ct5 oc6 kV6 dc6 pm6 cd6 ct6 oc7 kV7 dc7 pm7 cd7 ct7 oc8 kV8 dc8 pm8 cd8 ct8 oc9 kV9 dc9 pm9 ct9 oc10 kV10 dc10 pm10 cd10 ct10 oc11 kV11 dc11 pm11 cd11 ct11 oc12 kV12 dc12 pm12 cd12 ct12 oc13 kV13 dc13 pm13 cd13 ct13 oc14 kV14 dc14 pm14 cd14 ct14 oc15 kV15 dc15 pm15 cd15 ct15 oc16 kV16 dc16 pm16 cd16 ct16 oc17 kV17 dc17 pm17 cd17 ct17 oc18 kV18 dc18 pm18 cd18 ct18 oc19 kV19 dc19 pm19 cd19 ct19 oc20 kV20 dc20 pm20 cd20 ct20 oc21 kV21 dc21 pm21 cd21 ct21 oc22 kV22 dc22 pm22 cd22 ct22 oc23 kV23 dc23 pm23 cd23 ct23 oc24 kV24 dc24 pm24 cd24 ct24 oc25 kV25 dc25 pm25 cd25 ct25 oc26 kV26 dc26 pm26 ct26 oc27 kV27 dc27 pm27 ct27 oc28 kV28 dc28 pm28 ct28 oc29 kV29 dc29 pm29 cd29 ct29 oc30 kV30 dc30 pm30 cd30 ct30:Value}
  {PT9 PT26 PT27 PT28:Addr} (T:iq K pW [some PT9,none,none,some PT26,some PT27,some PT28,none,none])
  (a1:nsIn K mainGlobals "is_nail"=some (some (.ref f1))) (l1:K.lookup f1=some ⟨oc1,od1,.func (fnOf "is_nail" "is_nail" (aI gU) (aA gU) (af gU) .none kV1 dc1 pm1 an1 cd1 ct1),sl1⟩) (c1:codeIn K cd1 "is_nail"=true) (k1:keepIn K (.ref f1)=true)
  (a2:nsIn K mainGlobals "short_form"=some (some (.ref f2))) (l2:K.lookup f2=some ⟨oc2,od2,.func (fnOf "short_form" "short_form" (aI eZ) (aA eZ) (af eZ) .none kV2 dc2 pm2 an2 cd2 ct2),sl2⟩) (c2:codeIn K cd2 "short_form"=true) (k2:keepIn K (.ref f2)=true)
  (a3:nsIn K mainGlobals "is_fall"=some (some (.ref f3))) (l3:K.lookup f3=some ⟨oc3,od3,.func (fnOf "is_fall" "is_fall" (aI gV) (aA gV) (af gV) .none kV3 dc3 pm3 an3 cd3 ct3),sl3⟩) (c3:codeIn K cd3 "is_fall"=true) (k3:keepIn K (.ref f3)=true)
  (a4:nsIn K mainGlobals "set_of"=some (some (.ref f4))) (l4:K.lookup f4=some ⟨oc4,od4,.func (fnOf "set_of" "set_of" (aI ig) (aA ig) (af ig) .none kV4 dc4 pm4 an4 cd4 ct4),sl4⟩) (c4:codeIn K cd4 "set_of"=true) (k4:keepIn K (.ref f4)=true)
  (a5:nsIn K mainGlobals "nails_of"=some (some (.ref f5))) (l5:K.lookup f5=some ⟨oc5,od5,.func (fnOf "nails_of" "nails_of" (aI f_) (aA f_) (af f_) .none kV5 dc5 pm5 an5 cd5 ct5),sl5⟩) (c5:codeIn K cd5 "nails_of"=true) (k5:keepIn K (.ref f5)=true)
  (a6:nsIn K mainGlobals "without"=some (some (.ref f6))) (l6:K.lookup f6=some ⟨oc6,od6,.func (fnOf "without" "without" (aI gb) (aA gb) (af gb) .none kV6 dc6 pm6 an6 cd6 ct6),sl6⟩) (c6:codeIn K cd6 "without"=true) (k6:keepIn K (.ref f6)=true)
  (a7:nsIn K mainGlobals "falls_without"=some (some (.ref f7))) (l7:K.lookup f7=some ⟨oc7,od7,.func (fnOf "falls_without" "falls_without" (aI cE) (aA cE) (af cE) .none kV7 dc7 pm7 an7 cd7 ct7),sl7⟩) (c7:codeIn K cd7 "falls_without"=true) (k7:keepIn K (.ref f7)=true)
  (a8:nsIn K mainGlobals "bits_of"=some (some (.ref f8))) (l8:K.lookup f8=some ⟨oc8,od8,.func (fnOf "bits_of" "bits_of" (aI gW) (aA gW) (af gW) .none kV8 dc8 pm8 an8 cd8 ct8),sl8⟩) (c8:codeIn K cd8 "bits_of"=true) (k8:keepIn K (.ref f8)=true)
  {cT9:Addr} (a9:nsIn K mainGlobals "in_told_order"=some (some (.ref f9))) (l9:K.lookup f9=some ⟨oc9,od9,.func (fnOf "in_told_order" "in_told_order" (aI df) (aA df) (af df) .none kV9 dc9 pm9 an9 (.ref cT9) ct9),sl9⟩) (c9:codeIn K (.ref cT9) "in_told_order"=true) (k9:keepIn K (.ref f9)=true)
  (th9:codeHdIn K cT9 PT9=true) (tq9:ji K PT9=some (("in_told_order":Str)++".<locals>."++"<lambda>"))
  (a10:nsIn K mainGlobals "has_part_among"=some (some (.ref f10))) (l10:K.lookup f10=some ⟨oc10,od10,.func (fnOf "has_part_among" "has_part_among" (aI cR) (aA cR) (af cR) .none kV10 dc10 pm10 an10 cd10 ct10),sl10⟩) (c10:codeIn K cd10 "has_part_among"=true) (k10:keepIn K (.ref f10)=true)
  (a11:nsIn K mainGlobals "meets_each"=some (some (.ref f11))) (l11:K.lookup f11=some ⟨oc11,od11,.func (fnOf "meets_each" "meets_each" (aI e8) (aA e8) (af e8) .none kV11 dc11 pm11 an11 cd11 ct11),sl11⟩) (c11:codeIn K cd11 "meets_each"=true) (k11:keepIn K (.ref f11)=true)
  (a12:nsIn K mainGlobals "least_of"=some (some (.ref f12))) (l12:K.lookup f12=some ⟨oc12,od12,.func (fnOf "least_of" "least_of" (aI gc) (aA gc) (af gc) .none kV12 dc12 pm12 an12 cd12 ct12),sl12⟩) (c12:codeIn K cd12 "least_of"=true) (k12:keepIn K (.ref f12)=true)
  (a13:nsIn K mainGlobals "all_sets"=some (some (.ref f13))) (l13:K.lookup f13=some ⟨oc13,od13,.func (fnOf "all_sets" "all_sets" (aI gf) (aA gf) (af gf) .none kV13 dc13 pm13 an13 cd13 ct13),sl13⟩) (c13:codeIn K cd13 "all_sets"=true) (k13:keepIn K (.ref f13)=true)
  (a14:nsIn K mainGlobals "check_many"=some (some (.ref f14))) (l14:K.lookup f14=some ⟨oc14,od14,.func (fnOf "check_many" "check_many" (aI dS) (aA dS) (af dS) .none kV14 dc14 pm14 an14 cd14 ct14),sl14⟩) (c14:codeIn K cd14 "check_many"=true) (k14:keepIn K (.ref f14)=true)
  (a15:nsIn K mainGlobals "nails_among"=some (some (.ref f15))) (l15:K.lookup f15=some ⟨oc15,od15,.func (fnOf "nails_among" "nails_among" (aI d_) (aA d_) (af d_) .none kV15 dc15 pm15 an15 cd15 ct15),sl15⟩) (c15:codeIn K cd15 "nails_among"=true) (k15:keepIn K (.ref f15)=true)
  (a16:nsIn K mainGlobals "least_sets"=some (some (.ref f16))) (l16:K.lookup f16=some ⟨oc16,od16,.func (fnOf "least_sets" "least_sets" (aI dU) (aA dU) (af dU) .none kV16 dc16 pm16 an16 cd16 ct16),sl16⟩) (c16:codeIn K cd16 "least_sets"=true) (k16:keepIn K (.ref f16)=true)
  (a17:nsIn K mainGlobals "meeting_sets"=some (some (.ref f17))) (l17:K.lookup f17=some ⟨oc17,od17,.func (fnOf "meeting_sets" "meeting_sets" (aI cU) (aA cU) (af cU) .none kV17 dc17 pm17 an17 cd17 ct17),sl17⟩) (c17:codeIn K cd17 "meeting_sets"=true) (k17:keepIn K (.ref f17)=true)
  (a18:nsIn K mainGlobals "falling_sets"=some (some (.ref f18))) (l18:K.lookup f18=some ⟨oc18,od18,.func (fnOf "falling_sets" "falling_sets" (aI cV) (aA cV) (af cV) .none kV18 dc18 pm18 an18 cd18 ct18),sl18⟩) (c18:codeIn K cd18 "falling_sets"=true) (k18:keepIn K (.ref f18)=true)
  (a19:nsIn K mainGlobals "holding_sets"=some (some (.ref f19))) (l19:K.lookup f19=some ⟨oc19,od19,.func (fnOf "holding_sets" "holding_sets" (aI cW) (aA cW) (af cW) .none kV19 dc19 pm19 an19 cd19 ct19),sl19⟩) (c19:codeIn K cd19 "holding_sets"=true) (k19:keepIn K (.ref f19)=true)
  (a20:nsIn K mainGlobals "_law_at"=some (some (.ref f20))) (l20:K.lookup f20=some ⟨oc20,od20,.func (fnOf "_law_at" "_law_at" (aI iN) (aA iN) (af iN) .none kV20 dc20 pm20 an20 cd20 ct20),sl20⟩) (c20:codeIn K cd20 "_law_at"=true) (k20:keepIn K (.ref f20)=true)
  (a21:nsIn K mainGlobals "_law_others"=some (some (.ref f21))) (l21:K.lookup f21=some ⟨oc21,od21,.func (fnOf "_law_others" "_law_others" (aI e9) (aA e9) (af e9) .none kV21 dc21 pm21 an21 cd21 ct21),sl21⟩) (c21:codeIn K cd21 "_law_others"=true) (k21:keepIn K (.ref f21)=true)
  (a22:nsIn K mainGlobals "_law_refused"=some (some (.ref f22))) (l22:K.lookup f22=some ⟨oc22,od22,.func (fnOf "_law_refused" "_law_refused" (aI ef) (aA ef) (af ef) .none kV22 dc22 pm22 an22 cd22 ct22),sl22⟩) (c22:codeIn K cd22 "_law_refused"=true) (k22:keepIn K (.ref f22)=true)
  (a23:nsIn K mainGlobals "_law_sign"=some (some (.ref f23))) (l23:K.lookup f23=some ⟨oc23,od23,.func (fnOf "_law_sign" "_law_sign" (aI gh) (aA gh) (af gh) .none kV23 dc23 pm23 an23 cd23 ct23),sl23⟩) (c23:codeIn K cd23 "_law_sign"=true) (k23:keepIn K (.ref f23)=true)
  (a24:nsIn K mainGlobals "_law_bad"=some (some (.ref f24))) (l24:K.lookup f24=some ⟨oc24,od24,.func (fnOf "_law_bad" "_law_bad" (aI gX) (aA gX) (af gX) .none kV24 dc24 pm24 an24 cd24 ct24),sl24⟩) (c24:codeIn K cd24 "_law_bad"=true) (k24:keepIn K (.ref f24)=true)
  (a25:nsIn K mainGlobals "_law_wide"=some (some (.ref f25))) (l25:K.lookup f25=some ⟨oc25,od25,.func (fnOf "_law_wide" "_law_wide" (aI gi) (aA gi) (af gi) .none kV25 dc25 pm25 an25 cd25 ct25),sl25⟩) (c25:codeIn K cd25 "_law_wide"=true) (k25:keepIn K (.ref f25)=true)
  {cT26:Addr} (a26:nsIn K mainGlobals "_law_sets_refused"=some (some (.ref f26))) (l26:K.lookup f26=some ⟨oc26,od26,.func (fnOf "_law_sets_refused" "_law_sets_refused" (aI b_) (aA b_) (af b_) .none kV26 dc26 pm26 an26 (.ref cT26) ct26),sl26⟩) (c26:codeIn K (.ref cT26) "_law_sets_refused"=true) (k26:keepIn K (.ref f26)=true)
  (th26:codeHdIn K cT26 PT26=true) (tq26:ji K PT26=some (("_law_sets_refused":Str)++".<locals>."++"<lambda>"))
  {cT27:Addr} (a27:nsIn K mainGlobals "_law_cords_refused"=some (some (.ref f27))) (l27:K.lookup f27=some ⟨oc27,od27,.func (fnOf "_law_cords_refused" "_law_cords_refused" (aI bR) (aA bR) (af bR) .none kV27 dc27 pm27 an27 (.ref cT27) ct27),sl27⟩) (c27:codeIn K (.ref cT27) "_law_cords_refused"=true) (k27:keepIn K (.ref f27)=true)
  (th27:codeHdIn K cT27 PT27=true) (tq27:ji K PT27=some (("_law_cords_refused":Str)++".<locals>."++"<lambda>"))
  {cT28:Addr} (a28:nsIn K mainGlobals "_law_many_refused"=some (some (.ref f28))) (l28:K.lookup f28=some ⟨oc28,od28,.func (fnOf "_law_many_refused" "_law_many_refused" (aI cb) (aA cb) (af cb) .none kV28 dc28 pm28 an28 (.ref cT28) ct28),sl28⟩) (c28:codeIn K (.ref cT28) "_law_many_refused"=true) (k28:keepIn K (.ref f28)=true)
  (th28:codeHdIn K cT28 PT28=true) (tq28:ji K PT28=some (("_law_many_refused":Str)++".<locals>."++"<lambda>"))
  (a29:nsIn K mainGlobals "_law_ten_told"=some (some (.ref f29))) (l29:K.lookup f29=some ⟨oc29,od29,.func (fnOf "_law_ten_told" "_law_ten_told" (aI dL) (aA dL) (af dL) .none kV29 dc29 pm29 an29 cd29 ct29),sl29⟩) (c29:codeIn K cd29 "_law_ten_told"=true) (k29:keepIn K (.ref f29)=true)
  (a30:nsIn K mainGlobals "law"=some (some (.ref f30))) (l30:K.lookup f30=some ⟨oc30,od30,.func (fnOf "law" "law" (aI lR) (aA lR) (af lR) .none kV30 dc30 pm30 an30 cd30 ct30),sl30⟩) (c30:codeIn K cd30 "law"=true) (k30:keepIn K (.ref f30)=true)
  {t_LETTERS:Tok} (g_LETTERS:nsIn K mainGlobals "LETTERS"=some (some (.str "abcdefghijklmnopqrstuvwxyz" t_LETTERS)))
  {t_MOST_NAILS:Tok} (g_MOST_NAILS:nsIn K mainGlobals "MOST_NAILS"=some (some (.int 10 t_MOST_NAILS)))
  {ec_NoCord ec_NoNails ec_NoRule ec_NoText ec_NoMove ec_NoLine ec_NoName ec_NoNumber ec_TooMany ec_TooLong ec_HangError:Addr}
  (qc_NoCord:nsIn K mainGlobals "NoCord"=some (some (.ref ec_NoCord)))
  (qc_NoNails:nsIn K mainGlobals "NoNails"=some (some (.ref ec_NoNails)))
  (qc_NoRule:nsIn K mainGlobals "NoRule"=some (some (.ref ec_NoRule)))
  (qc_NoText:nsIn K mainGlobals "NoText"=some (some (.ref ec_NoText)))
  (qc_NoMove:nsIn K mainGlobals "NoMove"=some (some (.ref ec_NoMove)))
  (qc_NoLine:nsIn K mainGlobals "NoLine"=some (some (.ref ec_NoLine)))
  (qc_NoName:nsIn K mainGlobals "NoName"=some (some (.ref ec_NoName)))
  (qc_NoNumber:nsIn K mainGlobals "NoNumber"=some (some (.ref ec_NoNumber)))
  (qc_TooMany:nsIn K mainGlobals "TooMany"=some (some (.ref ec_TooMany)))
  (qc_TooLong:nsIn K mainGlobals "TooLong"=some (some (.ref ec_TooLong)))
  (qc_ValueError:nsIn K mainGlobals "ValueError"=some none)
  (qc_HangError:nsIn K mainGlobals "HangError"=some (some (.ref ec_HangError)))
  (w1_NoNails:excIn K ec_NoNails G0 "ValueError.__new__"=true)
  (w2_NoNails:(PySem.W.clsIn K ec_NoNails).isSome=true)
  (w3_NoNails:findIn K (.ref ec_NoNails) "__getattribute__"=some (some (.builtin "BaseException.__getattribute__")))
  (w4_NoNails:findIn K (.ref ec_NoNails) "__getattr__"=some none)
  (w5_NoNails:findIn K (.ref ec_NoNails) "__class__"=some (some (.builtin "object.__class__")))
  (w6_NoNails:mroIn K ec_NoNails (.type "BaseException")=some true)
  (w7_NoNails:mroIn K ec_NoNails (.type "object")=some true)
  (y_NoNails_NoCord:kitOne K (.ref ec_NoNails) (.ref ec_NoCord)=some false)
  (y_NoNails_NoNails:kitOne K (.ref ec_NoNails) (.ref ec_NoNails)=some true)
  (y_NoNails_NoRule:kitOne K (.ref ec_NoNails) (.ref ec_NoRule)=some false)
  (y_NoNails_NoText:kitOne K (.ref ec_NoNails) (.ref ec_NoText)=some false)
  (y_NoNails_NoMove:kitOne K (.ref ec_NoNails) (.ref ec_NoMove)=some false)
  (y_NoNails_NoLine:kitOne K (.ref ec_NoNails) (.ref ec_NoLine)=some false)
  (y_NoNails_NoName:kitOne K (.ref ec_NoNails) (.ref ec_NoName)=some false)
  (y_NoNails_NoNumber:kitOne K (.ref ec_NoNails) (.ref ec_NoNumber)=some false)
  (y_NoNails_TooMany:kitOne K (.ref ec_NoNails) (.ref ec_TooMany)=some false)
  (y_NoNails_TooLong:kitOne K (.ref ec_NoNails) (.ref ec_TooLong)=some false)
  (y_NoNails_ValueError:kitOne K (.ref ec_NoNails) (.type "ValueError")=some true)
  (y_NoNails_HangError:exmOne K (.ref ec_NoNails) (.ref ec_HangError)=some true)
  (w1_TooMany:excIn K ec_TooMany G0 "ValueError.__new__"=true)
  (w2_TooMany:(PySem.W.clsIn K ec_TooMany).isSome=true)
  (w3_TooMany:findIn K (.ref ec_TooMany) "__getattribute__"=some (some (.builtin "BaseException.__getattribute__")))
  (w4_TooMany:findIn K (.ref ec_TooMany) "__getattr__"=some none)
  (w5_TooMany:findIn K (.ref ec_TooMany) "__class__"=some (some (.builtin "object.__class__")))
  (w6_TooMany:mroIn K ec_TooMany (.type "BaseException")=some true)
  (w7_TooMany:mroIn K ec_TooMany (.type "object")=some true)
  (y_TooMany_NoCord:kitOne K (.ref ec_TooMany) (.ref ec_NoCord)=some false)
  (y_TooMany_NoNails:kitOne K (.ref ec_TooMany) (.ref ec_NoNails)=some false)
  (y_TooMany_NoRule:kitOne K (.ref ec_TooMany) (.ref ec_NoRule)=some false)
  (y_TooMany_NoText:kitOne K (.ref ec_TooMany) (.ref ec_NoText)=some false)
  (y_TooMany_NoMove:kitOne K (.ref ec_TooMany) (.ref ec_NoMove)=some false)
  (y_TooMany_NoLine:kitOne K (.ref ec_TooMany) (.ref ec_NoLine)=some false)
  (y_TooMany_NoName:kitOne K (.ref ec_TooMany) (.ref ec_NoName)=some false)
  (y_TooMany_NoNumber:kitOne K (.ref ec_TooMany) (.ref ec_NoNumber)=some false)
  (y_TooMany_TooMany:kitOne K (.ref ec_TooMany) (.ref ec_TooMany)=some true)
  (y_TooMany_TooLong:kitOne K (.ref ec_TooMany) (.ref ec_TooLong)=some false)
  (y_TooMany_ValueError:kitOne K (.ref ec_TooMany) (.type "ValueError")=some true)
  (y_TooMany_HangError:exmOne K (.ref ec_TooMany) (.ref ec_HangError)=some true)
  (z1:nsIn K mainGlobals "len"=some none)
  (z2:nsIn K mainGlobals "range"=some none)
  (z3:nsIn K mainGlobals "abs"=some none)
  (z4:nsIn K mainGlobals "min"=some none)
  (z5:nsIn K mainGlobals "max"=some none)
  (z6:nsIn K mainGlobals "reversed"=some none)
  (z7:nsIn K mainGlobals "enumerate"=some none)
  (z8:nsIn K mainGlobals "isinstance"=some none)
  (z9:nsIn K mainGlobals "list"=some none)
  (z10:nsIn K mainGlobals "tuple"=some none)
  (z11:nsIn K mainGlobals "str"=some none)
  (z12:nsIn K mainGlobals "int"=some none)
  (z13:nsIn K mainGlobals "bool"=some none)
  (z14:nsIn K mainGlobals "sorted"=some none)
  (z15:nsIn K mainGlobals "zip"=some none)
  (z16:nsIn K mainGlobals "sum"=some none)
  (z17:nsIn K mainGlobals "any"=some none)
  (z18:nsIn K mainGlobals "all"=some none)
  (z19:nsIn K mainGlobals "set"=some none)
  (z20:nsIn K mainGlobals "dict"=some none):
  ∃fd:FuncData,(∀(s:Shared) (v:Value),BindsTo s fd ⟨[v],[]⟩ [("_law_script",v)])∧∀base:Heap,K.In base→base.Ns mainGlobals mg→FnOk l.prog w K mg base nX 10 fa fd ["_law_script"] (cM K mF):=by
 have e:=hfa.symm.trans (mg_of X G a30)
 cases e
 have F0:=uL (st:=lR) l30 c30 k30
 have B:Bn mg:=FM X G z1 z2 z3 z4 z5 z6 z7 z8 z9 z10 z11 z12 z13 z14 z15 z16 z17 z18 z19 z20
 have G_LETTERS:=mg_of X G g_LETTERS
 have G_MOST_NAILS:=mg_of X G g_MOST_NAILS
 have Z_NoNails:ExCls K ec_NoNails:=⟨Option.isSome_iff_exists.mp w2_NoNails,w3_NoNails,w4_NoNails,w5_NoNails,w6_NoNails,w7_NoNails⟩
 have Z_TooMany:ExCls K ec_TooMany:=⟨Option.isSome_iff_exists.mp w2_TooMany,w3_TooMany,w4_TooMany,w5_TooMany,w6_TooMany,w7_TooMany⟩
 have XX:XF K mg:=⟨⟨ec_NoCord,mg_of X G qc_NoCord,(bX qc_NoNails Z_NoNails y_NoNails_NoCord (bX qc_TooMany Z_TooMany y_TooMany_NoCord hJ))⟩,⟨ec_NoNails,mg_of X G qc_NoNails,(bX qc_NoNails Z_NoNails y_NoNails_NoNails (bX qc_TooMany Z_TooMany y_TooMany_NoNails hJ)),⟨qc_NoNails,mg_of X G qc_NoNails,w1_NoNails,Z_NoNails⟩⟩,⟨ec_NoRule,mg_of X G qc_NoRule,(bX qc_NoNails Z_NoNails y_NoNails_NoRule (bX qc_TooMany Z_TooMany y_TooMany_NoRule hJ))⟩,⟨ec_NoText,mg_of X G qc_NoText,(bX qc_NoNails Z_NoNails y_NoNails_NoText (bX qc_TooMany Z_TooMany y_TooMany_NoText hJ))⟩,⟨ec_NoMove,mg_of X G qc_NoMove,(bX qc_NoNails Z_NoNails y_NoNails_NoMove (bX qc_TooMany Z_TooMany y_TooMany_NoMove hJ))⟩,⟨ec_NoLine,mg_of X G qc_NoLine,(bX qc_NoNails Z_NoNails y_NoNails_NoLine (bX qc_TooMany Z_TooMany y_TooMany_NoLine hJ))⟩,⟨ec_NoName,mg_of X G qc_NoName,(bX qc_NoNails Z_NoNails y_NoNails_NoName (bX qc_TooMany Z_TooMany y_TooMany_NoName hJ))⟩,⟨ec_NoNumber,mg_of X G qc_NoNumber,(bX qc_NoNails Z_NoNails y_NoNails_NoNumber (bX qc_TooMany Z_TooMany y_TooMany_NoNumber hJ))⟩,⟨ec_TooMany,mg_of X G qc_TooMany,(bX qc_NoNails Z_NoNails y_NoNails_TooMany (bX qc_TooMany Z_TooMany y_TooMany_TooMany hJ)),⟨qc_TooMany,mg_of X G qc_TooMany,w1_TooMany,Z_TooMany⟩⟩,⟨ec_TooLong,mg_of X G qc_TooLong,(bX qc_NoNails Z_NoNails y_NoNails_TooLong (bX qc_TooMany Z_TooMany y_TooMany_TooLong hJ))⟩,⟨mg_none_of X G qc_ValueError,(bX qc_NoNails Z_NoNails y_NoNails_ValueError (bX qc_TooMany Z_TooMany y_TooMany_ValueError hJ))⟩,⟨ec_HangError,mg_of X G qc_HangError,fun n hn D hD=>by
  simp only[Zal,List.not_mem_nil,or_false]at hn
  rcases hn with rfl |rfl
  ·rw[qc_NoNails]at hD;cases hD;exact y_NoNails_HangError
  ·rw[qc_TooMany]at hD;cases hD;exact y_TooMany_HangError⟩⟩
 have e_is_nail:Def K mg "is_nail" gU ["thing"]:=cC X G a1 l1 c1 k1 fun _ _ _ _ _ _=>fun us hl=>iO (fun _=>rfl) us hl
 have e_short_form:Def K mg "short_form" eZ ["cord"]:=cC X G a2 l2 c2 k2 fun _ _ _ _ _ _=>fun us hl=>iO (fun _=>rfl) us hl
 have e_is_fall:Def K mg "is_fall" gV ["cord"]:=cC X G a3 l3 c3 k3 fun _ _ _ _ _ _=>fun us hl=>iO (fun _=>rfl) us hl
 have e_set_of:Def K mg "set_of" ig ["nails"]:=cC X G a4 l4 c4 k4 fun _ _ _ _ _ _=>fun us hl=>iO (fun _=>rfl) us hl
 have e_nails_of:Def K mg "nails_of" f_ ["cord"]:=cC X G a5 l5 c5 k5 fun _ _ _ _ _ _=>fun us hl=>iO (fun _=>rfl) us hl
 have e_without:Def K mg "without" gb ["cord","nails"]:=cC X G a6 l6 c6 k6 fun _ _ _ _ _ _=>fun us hl=>sr (fun _ _=>rfl) us hl
 have e_falls_without:Def K mg "falls_without" cE ["cord","nails"]:=cC X G a7 l7 c7 k7 fun _ _ _ _ _ _=>fun us hl=>sr (fun _ _=>rfl) us hl
 have e_bits_of:Def K mg "bits_of" gW ["nails"]:=cC X G a8 l8 c8 k8 fun _ _ _ _ _ _=>fun us hl=>iO (fun _=>rfl) us hl
 have e_in_told_order:DefT K mg "in_told_order" df ["sets"] cT9 PT9:=⟨⟨f9,_,_,_,_,_,_,_,_,l9,c9,k9,mg_of X G a9,.all (fun us hl=>iO (fun _=>rfl) us hl)⟩,th9,tq9⟩
 have e_has_part_among:Def K mg "has_part_among" cR ["bits","parts"]:=cC X G a10 l10 c10 k10 fun _ _ _ _ _ _=>fun us hl=>sr (fun _ _=>rfl) us hl
 have e_meets_each:Def K mg "meets_each" e8 ["bits","others"]:=cC X G a11 l11 c11 k11 fun _ _ _ _ _ _=>fun us hl=>sr (fun _ _=>rfl) us hl
 have e_least_of:Def K mg "least_of" gc ["sets"]:=cC X G a12 l12 c12 k12 fun _ _ _ _ _ _=>fun us hl=>iO (fun _=>rfl) us hl
 have e_all_sets:Def K mg "all_sets" gf ["nails"]:=cC X G a13 l13 c13 k13 fun _ _ _ _ _ _=>fun us hl=>iO (fun _=>rfl) us hl
 have e_check_many:Def K mg "check_many" dS ["nails"]:=cC X G a14 l14 c14 k14 fun _ _ _ _ _ _=>fun us hl=>iO (fun _=>rfl) us hl
 have e_nails_among:Def K mg "nails_among" d_ ["sets"]:=cC X G a15 l15 c15 k15 fun _ _ _ _ _ _=>fun us hl=>iO (fun _=>rfl) us hl
 have e_least_sets:Def K mg "least_sets" dU ["family"]:=cC X G a16 l16 c16 k16 fun _ _ _ _ _ _=>fun us hl=>iO (fun _=>rfl) us hl
 have e_meeting_sets:Def K mg "meeting_sets" cU ["family"]:=cC X G a17 l17 c17 k17 fun _ _ _ _ _ _=>fun us hl=>iO (fun _=>rfl) us hl
 have e_falling_sets:Def K mg "falling_sets" cV ["cord"]:=cC X G a18 l18 c18 k18 fun _ _ _ _ _ _=>fun us hl=>iO (fun _=>rfl) us hl
 have e_holding_sets:Def K mg "holding_sets" cW ["cord"]:=cC X G a19 l19 c19 k19 fun _ _ _ _ _ _=>fun us hl=>iO (fun _=>rfl) us hl
 have e_law_at:Def K mg "_law_at" iN ["_law_script","_law_k"]:=cC X G a20 l20 c20 k20 fun _ _ _ _ _ _=>fun us hl=>sr (fun _ _=>rfl) us hl
 have e_law_others:Def K mg "_law_others" e9 ["_law_e"]:=cC X G a21 l21 c21 k21 fun _ _ _ _ _ _=>fun us hl=>iO (fun _=>rfl) us hl
 have e_law_refused:Def K mg "_law_refused" ef ["_law_deed","_law_due"]:=cC X G a22 l22 c22 k22 fun _ _ _ _ _ _=>fun us hl=>sr (fun _ _=>rfl) us hl
 have e_law_sign:Def K mg "_law_sign" gh ["_law_cell"]:=cC X G a23 l23 c23 k23 fun _ _ _ _ _ _=>fun us hl=>iO (fun _=>rfl) us hl
 have e_law_bad:Def K mg "_law_bad" gX ["_law_cell"]:=cC X G a24 l24 c24 k24 fun _ _ _ _ _ _=>fun us hl=>iO (fun _=>rfl) us hl
 have e_law_wide:Def K mg "_law_wide" gi ["_law_cell","_law_many"]:=cC X G a25 l25 c25 k25 fun _ _ _ _ _ _=>fun us hl=>sr (fun _ _=>rfl) us hl
 have e_law_sets_refused:DefT K mg "_law_sets_refused" b_ ["_law_bad_here","_law_cell"] cT26 PT26:=⟨⟨f26,_,_,_,_,_,_,_,_,l26,c26,k26,mg_of X G a26,.all (fun us hl=>sr (fun _ _=>rfl) us hl)⟩,th26,tq26⟩
 have e_law_cords_refused:DefT K mg "_law_cords_refused" bR ["_law_bad_here","_law_cell"] cT27 PT27:=⟨⟨f27,_,_,_,_,_,_,_,_,l27,c27,k27,mg_of X G a27,.all (fun us hl=>sr (fun _ _=>rfl) us hl)⟩,th27,tq27⟩
 have e_law_many_refused:DefT K mg "_law_many_refused" cb ["_law_cell"] cT28 PT28:=⟨⟨f28,_,_,_,_,_,_,_,_,l28,c28,k28,mg_of X G a28,.all (fun us hl=>iO (fun _=>rfl) us hl)⟩,th28,tq28⟩
 have e_law_ten_told:Def K mg "_law_ten_told" dL ["_law_cell"]:=cC X G a29 l29 c29 k29 fun _ _ _ _ _ _=>fun us hl=>iO (fun _=>rfl) us hl
 refine⟨fnOf "law" "law" (aI lR) (aA lR) (af lR) .none kV30 dc30 pm30 an30 cd30 ct30,fun s v=>.of_eq rfl,fun base _ _=>?_⟩
 have D_is_nail:=vq (P:=l.prog) (w:=w) (base:=base) e_is_nail B
 have D_short_form:=pM (P:=l.prog) (w:=w) (base:=base) e_short_form B
 have D_is_fall:=vv (P:=l.prog) (w:=w) (base:=base) e_is_fall B D_short_form
 have D_set_of:=xT (P:=l.prog) (w:=w) (base:=base) e_set_of B D_is_nail XX
 have R_set_of:=vw (P:=l.prog) (w:=w) (base:=base) e_set_of B D_is_nail XX
 have D_nails_of:=t5 (P:=l.prog) (w:=w) (base:=base) e_nails_of B
 have D_without:=vx (P:=l.prog) (w:=w) (base:=base) e_without B D_set_of R_set_of
 have R_without:=t6 (P:=l.prog) (w:=w) (base:=base) e_without B D_set_of R_set_of
 have D_falls_without:=mG (P:=l.prog) (w:=w) (base:=base) e_falls_without B D_without D_is_fall R_without
 have R_falls_without:=lP (P:=l.prog) (w:=w) (base:=base) e_falls_without B D_without D_is_fall R_without
 have D_bits_of:=vy (P:=l.prog) (w:=w) (base:=base) e_bits_of B G_LETTERS
 have D_in_told_order:=mI (P:=l.prog) (w:=w) (base:=base) e_in_told_order B
 have D_has_part_among:=lQ (P:=l.prog) (w:=w) (base:=base) e_has_part_among B
 have D_meets_each:=pN (P:=l.prog) (w:=w) (base:=base) e_meets_each B
 have D_least_of:=t7 (P:=l.prog) (w:=w) (base:=base) e_least_of B D_in_told_order D_bits_of D_has_part_among
 have D_all_sets:=t8 (P:=l.prog) (w:=w) (base:=base) e_all_sets B
 have D_check_many:=pO (P:=l.prog) (w:=w) (base:=base) e_check_many B G_MOST_NAILS XX
 have R_check_many:=oY (P:=l.prog) (w:=w) (base:=base) e_check_many B G_MOST_NAILS XX
 have D_nails_among:=o4 (P:=l.prog) (w:=w) (base:=base) e_nails_among B D_set_of
 have D_least_sets:=pP (P:=l.prog) (w:=w) (base:=base) e_least_sets B D_set_of D_least_of R_set_of
 have R_least_sets:=o5 (P:=l.prog) (w:=w) (base:=base) e_least_sets B D_set_of D_least_of R_set_of
 have D_meeting_sets:=nw (P:=l.prog) (w:=w) (base:=base) e_meeting_sets B D_least_sets D_bits_of D_nails_among D_check_many D_all_sets D_meets_each D_least_of R_least_sets R_check_many
 have R_meeting_sets:=mJ (P:=l.prog) (w:=w) (base:=base) e_meeting_sets B D_least_sets D_bits_of D_nails_among D_check_many D_all_sets D_meets_each D_least_of R_least_sets R_check_many
 have D_falling_sets:=ny (P:=l.prog) (w:=w) (base:=base) e_falling_sets B D_nails_of D_check_many D_all_sets D_falls_without D_least_of R_check_many
 have R_falling_sets:=mK (P:=l.prog) (w:=w) (base:=base) e_falling_sets B D_nails_of D_check_many D_all_sets D_falls_without D_least_of R_check_many
 have D_holding_sets:=nD (P:=l.prog) (w:=w) (base:=base) e_holding_sets B D_falling_sets D_meeting_sets R_falling_sets
 have R_holding_sets:=mL (P:=l.prog) (w:=w) (base:=base) e_holding_sets B D_falling_sets D_meeting_sets R_falling_sets
 have D_law_at:=xV (P:=l.prog) (w:=w) (base:=base) e_law_at B
 have D_law_others:=pQ (P:=l.prog) (w:=w) (base:=base) e_law_others B XX
 have D_law_refused:=o8 (P:=l.prog) (w:=w) (base:=base) e_law_refused B D_law_others XX
 have D_law_sign:=t9 (P:=l.prog) (w:=w) (base:=base) e_law_sign B
 have D_law_bad:=vz (P:=l.prog) (w:=w) (base:=base) e_law_bad B D_law_sign
 have D_law_wide:=t_ (P:=l.prog) (w:=w) (base:=base) e_law_wide B
 have D_law_sets_refused:=kh (P:=l.prog) (w:=w) (base:=base) e_law_sets_refused B D_law_refused R_set_of R_least_sets R_meeting_sets D_law_wide
 have D_law_cords_refused:=jO (P:=l.prog) (w:=w) (base:=base) e_law_cords_refused B D_law_refused R_without R_falls_without
 have D_law_many_refused:=ki (P:=l.prog) (w:=w) (base:=base) e_law_many_refused B D_law_wide D_law_refused R_falling_sets R_holding_sets R_meeting_sets D_meeting_sets
 have D_law_ten_told:=nE (P:=l.prog) (w:=w) (base:=base) e_law_ten_told B D_law_wide D_falling_sets D_holding_sets
 exact EH F0 B D_law_at D_law_ten_told D_law_bad D_law_sets_refused D_law_cords_refused D_law_many_refused
theorem Hh{PT9 PT26 PT27 PT28:Addr}{l:OpenLaw}{q:Program}{loose:List Str}{XP:(Str→Option Value)→Heap→Prop}{YP:World→Heap→Prop}{d:DefRec}{K:Params→Frag}(hn:l.most=some 63)(hdf:d.params.defaults=[])
  (T:∀w:World,iq (K w.params) pW [some PT9,none,none,some PT26,some PT27,some PT28,none,none]) (hY:∀(w:World) (h:Heap),YP w h→(K w.params).In h∧oM (K w.params) h [some PT9,none,none,some PT26,some PT27,some PT28,none,none])
  (F:∀(w:World) (mg:Str→Option Value) (fa:Addr) (h:Heap),iq (K w.params) pW [some PT9,none,none,some PT26,some PT27,some PT28,none,none]→(K w.params).In h→h.Ns mainGlobals mg→mg d.name=some (.ref fa)→
   ∃fd:FuncData,(∀(s:Shared) (u:Value),BindsTo s fd ⟨[u],[]⟩ [("_law_script",u)])∧∀base:Heap,(K w.params).In base→base.Ns mainGlobals mg→FnOk l.prog w (K w.params) mg base nX 10 fa fd ["_law_script"] (cM (K w.params) mF)):
  PySem.W.WalkO q loose XP YP l.row.toRowW d [] (fun f vs=>PySem.call f vs):=
 L2.zl (n:=63) (k:=10) (x:="_law_script") (CX:=fun _=>nX) (sp:=fun w=>cM (K w.params) mF) hn (by decide) hdf ⟨rfl,by decide,by decide⟩ (fun w h Y=>⟨(hY w h Y).1,Cd (hY w h Y).1 (T w) (hY w h Y).2⟩) (fun w mg fa h=>F w mg fa h (T w)) (fun _ _ a ns hl hS=>Ed (ES ns hl) hS) fun _ _ _ _ _ z=>z
end Nhk37
open PySem PySem.W PyProof.Rows
namespace PySem.W.Fast
def tw11617026643134961664:=0
def tw10886687424504706144:=0
def tw17870824276208705792:=0
def tw18172585712518321440:=0
def tw16743770440907968896:=0
def tw756851463806450240:=0
def tw17126499313596500576:=0
def tw913879450454661760:=0
def tw5097629191960112161:=0
def tw4099221817468863553:=0
def tw13208645313504678977:=0
def tw1608438602656450817:=0
def tw287923327048331617:=0
def tw9523860394057873921:=0
def tw11754611673019486721:=0
def tw15862055227884130977:=0
def tw4348912237837440705:=0
def tw6841513793959450337:=0
def tw203153440500211457:=0
def tw958020397391611681:=0
def tw1334314408266621857:=0
def tw11410357009390719298:=0
def tw13649852529435101698:=0
def tw11639284470508821090:=0
def tw14894642448801691490:=0
def tw10153516779837370210:=0
def tw9473878812085770435:=0
def tw4798570263888820451:=0
def tw14503544591601551651:=0
def tw14089532022650606947:=0
def tw2997126494331617795:=0
def tw16341844853775236643:=0
def tw17219618696507388643:=0
def tw8539098592523965219:=0
def tw998026391380777923:=0
def tw1442777875318673508:=0
def tw9148848350077117604:=0
def tw11210502944083161316:=0
def tw5473699315800859908:=0
def tw2082077029669189892:=0
def tw15653449782823511332:=0
def tw7813657070565714244:=0
def tw18016849388157425060:=0
def tw3453556615846028708:=0
def tw938617078269615652:=0
def tw10207252111917771396:=0
def tw4105735921637036740:=0
def tw18439465301452064452:=0
def tw1853905669437597508:=0
def tw11356032622024223749:=0
def tw7216944913250626725:=0
def tw5711518630930622693:=0
def tw15814667443931122405:=0
def tw14773293938577286949:=0
def tw2184623978167857254:=0
def tw6816514583793099878:=0
def tw16627182523427199174:=0
def tw13576228229572036838:=0
def tw15524687386331804902:=0
def tw5263321873889702278:=0
def tw14577974576268834182:=0
def tw11332211571028724166:=0
def tw104472364157407686:=0
def tw18194883278354316742:=0
def tw17761608093628648966:=0
def tw15333919931163659814:=0
def tw16333020935306176070:=0
def tw225885196426245798:=0
def tw14336434801775739558:=0
def tw1368588328102120198:=0
def tw16427092808333608742:=0
def tw273600506519910278:=0
def tw3645002486453336006:=0
def tw17445419225714661383:=0
def tw9981840521105224743:=0
def tw10237803038031124615:=0
def tw643074226018404487:=0
def tw13347174382862651591:=0
def tw13124191494182142215:=0
def tw4295685778377067815:=0
def tw6114664694773746087:=0
def tw18161802087990833767:=0
def tw16669708009381558983:=0
def tw2958200679297186695:=0
def tw18487035878098855:=0
def tw12077606592627587015:=0
def tw10800922392270319688:=0
def tw6475541085122235496:=0
def tw11269644114381317256:=0
def tw13276563488425322632:=0
def tw8492070953802873000:=0
def tw689061807095516392:=0
def tw175659318155120008:=0
def tw12770124192743162376:=0
def tw13678707831770548904:=0
def tw11407592663530599240:=0
def tw13840568466567806824:=0
def tw6236264458614307816:=0
def tw9911284356161239177:=0
def tw6131895500338059657:=0
def tw11769583550664710537:=0
def tw10258906763378215401:=0
def tw9089350577968526089:=0
def tw7107075929630049097:=0
def tw14211377653053639657:=0
def tw17771217091154294890:=0
def tw8262692949770708458:=0
def tw7573715989398176362:=0
def tw7114809750650842762:=0
def tw10115988056490071722:=0
def tw15364582559670047787:=0
def tw16144630659655348331:=0
def tw11882873623784469931:=0
def tw15554128606713663051:=0
def tw11985145708241024619:=0
def tw14770109099719435883:=0
def tw18116011454468860523:=0
def tw17016238336792260299:=0
def tw7968540687560094443:=0
def tw1421798702078274315:=0
def tw322174081355252683:=0
def tw14810432598302261324:=0
def tw6818296675128481900:=0
def tw16129978025975713964:=0
def tw13096957209142019276:=0
def tw6807257257219044556:=0
def tw13199984469429926188:=0
def tw14102493033019556204:=0
def tw5397038050326859148:=0
def tw8057176815223258540:=0
def tw5432961345761173996:=0
def tw9649591309570643660:=0
def tw3770937046162404365:=0
def tw1642996178965255341:=0
def tw9275505682837678509:=0
def tw6430471912981498381:=0
def tw2529964500180266541:=0
def tw10453461555960698701:=0
def tw14667747943464681357:=0
def tw10085994228959144974:=0
def tw5645982423851103246:=0
def tw7028236651239930958:=0
def tw7590831693884163374:=0
def tw5319959200251521422:=0
def tw15450785373897521582:=0
def tw16331693392290988494:=0
def tw9996399762937449966:=0
def tw9738453375814258158:=0
def tw17372311817868239502:=0
def tw12789637324464859918:=0
def tw15725549724150513518:=0
def tw8396213966101876686:=0
def tw2613433707592542158:=0
def tw16340242656554288110:=0
def tw749593881537316943:=0
def tw8040478175000426607:=0
def tw13719769499106864239:=0
def tw13540946733842027887:=0
def tw7715636959504420207:=0
def tw17323585377876285935:=0
def tw3289184953029211663:=0
def tw10828353574975293135:=0
def tw17969381912734208815:=0
def tw2558854876755773295:=0
def tw10123290414263659375:=0
def tw6485686223688263631:=0
def tw12946952738104495087:=0
def tw16654766842582904848:=0
def tw3361965159050582096:=0
def tw10366427018907382960:=0
def tw15708691705185785072:=0
def tw1016673076636647824:=0
def tw5404688713851736464:=0
def tw12310610365504331184:=0
def tw16321448812977778192:=0
def tw14909918355162887760:=0
def tw9848372960382920368:=0
def tw7633083568084382512:=0
def tw1890700554074626960:=0
def tw9993522309749358609:=0
def tw1292819987583396945:=0
def tw5758461974177010865:=0
def tw5987017599942252785:=0
def tw15359245837425527057:=0
def tw11905951731571361169:=0
def tw13074018046292967921:=0
def tw10240261523355126417:=0
def tw986619950858274449:=0
def tw9049644944609501137:=0
def tw8425915752433566866:=0
def tw16097024735761688786:=0
def tw17739732169463855346:=0
def tw9460649951294059954:=0
def tw10950008565890036178:=0
def tw10401562253715582450:=0
def tw17495148064508309074:=0
def tw16840979591476036178:=0
def tw17836307366568928946:=0
def tw10580195943584519890:=0
def tw6887422259865760530:=0
def tw1218529571174202130:=0
def tw3342319550993686450:=0
def tw7909933368821296050:=0
def tw12098338571483828178:=0
def tw1428430967608853458:=0
def tw6970809921008876498:=0
def tw4812367070663336019:=0
def tw11711240398554888627:=0
def tw7646749230948792883:=0
def tw13321858193811781235:=0
def tw11092768018000415507:=0
def tw966759611860641683:=0
def tw15839167927106102163:=0
def tw10665257820734904307:=0
def tw9506854930855688179:=0
def tw2310628907095506996:=0
def tw2917332348880434292:=0
def tw619260417277114484:=0
def tw1816474754738030996:=0
def tw6234177368968881556:=0
def tw6340445088777220660:=0
def tw15105165334291581588:=0
def tw16888294301436471349:=0
def tw14962005619013667925:=0
def tw10010844231661174965:=0
def tw14939000993570643157:=0
def tw4729262932533786997:=0
def tw14436441288559035093:=0
def tw13912019193727446773:=0
def tw8372075506135716597:=0
def tw17273471268105008021:=0
def tw17542683349832303509:=0
def tw6496608273093589973:=0
def tw9267461867672035414:=0
def tw8681745909601523030:=0
def tw9926393027612836342:=0
def tw7767665547281434166:=0
def tw16125842336176757398:=0
def tw2088365221004216054:=0
def tw13840851585754809174:=0
def tw13940287749707374422:=0
def tw8262305765573565334:=0
def tw4217999968629869494:=0
def tw135401549925592087:=0
def tw1720737504548531255:=0
def tw9294968129662205015:=0
def tw3247479081309886583:=0
def tw8711277218036940983:=0
def tw17304920977797293271:=0
def tw16330924228705568183:=0
def tw2276598985240334871:=0
def tw4537720537837216375:=0
def tw5159892317460574071:=0
def tw5661598262140855159:=0
def tw2781813867182326679:=0
def tw2920648845274997751:=0
def tw308146172005858328:=0
def tw11320463128632532088:=0
def tw5315883181388149912:=0
def tw5850325398758481048:=0
def tw4559234296108970168:=0
def tw6298479568698136824:=0
def tw6918420841381894456:=0
def tw1363609518480991544:=0
def tw9707041741129411896:=0
def tw12921125272126148984:=0
def tw5914152832530314648:=0
def tw3387681130858498488:=0
def tw15201458874388593272:=0
def tw5831749765319910072:=0
def tw9215372539632528120:=0
def tw7296456028293987064:=0
def tw4069893890749559576:=0
def tw15133880342816664408:=0
def tw2686177052289465208:=0
def tw2313047131628602296:=0
def tw10995743349528275960:=0
def tw7492436635794894105:=0
def tw701395128879161625:=0
def tw14370175733114275161:=0
def tw5427074232849066553:=0
def tw11039074731529341721:=0
def tw4483310462633471833:=0
def tw14827630205794683801:=0
def tw2338286796657411194:=0
def tw11779819534229185722:=0
def tw15487439269950813370:=0
def tw2247214385966764250:=0
def tw4557647220201427450:=0
def tw3194060463433479770:=0
def tw12954344592117080826:=0
def tw5143005562093936442:=0
def tw9888184431175106619:=0
def tw14424877023786777723:=0
def tw2840241075050548411:=0
def tw14306874384557383963:=0
def tw13013193035017408827:=0
def tw8841155231283739995:=0
def tw15709833482569355611:=0
def tw12416770986717627771:=0
def tw2099593491848056315:=0
def tw7703381818902170235:=0
def tw3142084538903257755:=0
def tw15841909236343515995:=0
def tw12554371433618290587:=0
def tw8754772986776281019:=0
def tw17909656065663983579:=0
def tw9979094604553186299:=0
def tw2592787383366964348:=0
def tw17551594437279583420:=0
def tw6074001052995877212:=0
def tw4231267671095883260:=0
def tw11132445944635529020:=0
def tw6711161199161410460:=0
def tw3792635306263693212:=0
def tw9010847078917760221:=0
def tw14575055005012887869:=0
def tw2285076230996733341:=0
def tw4504766991698348477:=0
def tw14773883061631537597:=0
def tw6565386060294660573:=0
def tw7753573580671972893:=0
def tw6859862129179297405:=0
def tw9242663921023163037:=0
def tw11590329230630849245:=0
def tw8490000341458711357:=0
def tw8379829865821563741:=0
def tw10747338043971280829:=0
def tw10019111254336599037:=0
def tw368253556750883006:=0
def tw8548751703802722686:=0
def tw3953449303118354974:=0
def tw2963132029776940830:=0
def tw11317905003240789822:=0
def tw4622775080369281854:=0
def tw11645205129823215454:=0
def tw15905489153589049214:=0
def tw11467398205320554494:=0
def tw4428707809683568638:=0
def tw12122734926331055167:=0
def tw10458225838633572479:=0
def tw8406178687716634847:=0
def tw8850402546077914399:=0
def tw1085771902588964223:=0
def tw10976050161452567967:=0
def tw13905773813030345215:=0
def tw9957266313476584991:=0
def tw1287890934457864767:=0
def tw11334315875719461567:=0
def tw15011440632234924799:=0
def tw13456398666625832927:=0
def tw17920516463837418558:=0
end PySem.W.Fast
set_option maxRecDepth 100000 in
set_option maxHeartbeats 0 in
theorem PySem.Challenge.cw_nailhang_k37_sets_refused_holds : PySem.Challenge.rw_nailhang_k37_sets_refused.Holds := by
 w_on;o_law;k_head;(case hw=>w_witness2)
 k_fill
 refine' Nhk37.Hh (l:=PySem.Challenge.rw_nailhang_k37_sets_refused) rfl rfl ?T (fun w h Y=>⟨PySem.W.km_in_of Y,?Y⟩) ?F
 case T=>
  intro w
  refine' ⟨PL.lH ?ta9 ?tb9 ?tc9 ?td9 ?te9 ?tf9,PL.iY ?tn1,PL.iY ?tn2,PL.lH ?ta26 ?tb26 ?tc26 ?td26 ?te26 ?tf26,PL.lH ?ta27 ?tb27 ?tc27 ?td27 ?te27 ?tf27,PL.lH ?ta28 ?tb28 ?tc28 ?td28 ?te28 ?tf28,PL.iY ?tn6,PL.iY ?tn7,trivial⟩
  (case ta9=>k_is)
  (case tb9=>k_is)
  (case tc9=>exact rfl)
  (case td9=>k_is)
  (case te9=>exact rfl)
  (case tf9=>kernel_rfl)
  (case tn1=>k_is)
  (case tn2=>k_is)
  (case ta26=>k_is)
  (case tb26=>k_is)
  (case tc26=>exact rfl)
  (case td26=>k_is)
  (case te26=>exact rfl)
  (case tf26=>kernel_rfl)
  (case ta27=>k_is)
  (case tb27=>k_is)
  (case tc27=>exact rfl)
  (case td27=>k_is)
  (case te27=>exact rfl)
  (case tf27=>kernel_rfl)
  (case ta28=>k_is)
  (case tb28=>k_is)
  (case tc28=>exact rfl)
  (case td28=>k_is)
  (case te28=>exact rfl)
  (case tf28=>kernel_rfl)
  (case tn6=>k_is)
  (case tn7=>k_is)
 case Y=>
  refine' ⟨⟨PySem.W.km_tabs_of Y _ ?ua9,?uc9⟩,⟨⟨PySem.W.km_tabs_of Y _ ?ua26,?uc26⟩,⟨⟨PySem.W.km_tabs_of Y _ ?ua27,?uc27⟩,⟨⟨PySem.W.km_tabs_of Y _ ?ua28,?uc28⟩,trivial⟩⟩⟩⟩
  (case ua9=>k_mem)
  (case uc9=>kernel_rfl)
  (case ua26=>k_mem)
  (case uc26=>kernel_rfl)
  (case ua27=>k_mem)
  (case uc27=>kernel_rfl)
  (case ua28=>k_mem)
  (case uc28=>kernel_rfl)
 case F=>
  intro w mg fa h T KX G hmg
  refine' Nhk37.ET KX G hmg T ?a1 ?l1 ?c1 ?k1 ?a2 ?l2 ?c2 ?k2 ?a3 ?l3 ?c3 ?k3 ?a4 ?l4 ?c4 ?k4 ?a5 ?l5 ?c5 ?k5 ?a6 ?l6 ?c6 ?k6 ?a7 ?l7 ?c7 ?k7 ?a8 ?l8 ?c8 ?k8 ?a9 ?l9 ?c9 ?k9 ?th9 ?tq9 ?a10 ?l10 ?c10 ?k10 ?a11 ?l11 ?c11 ?k11 ?a12 ?l12 ?c12 ?k12 ?a13 ?l13 ?c13 ?k13 ?a14 ?l14 ?c14 ?k14 ?a15 ?l15 ?c15 ?k15 ?a16 ?l16 ?c16 ?k16 ?a17 ?l17 ?c17 ?k17 ?a18 ?l18 ?c18 ?k18 ?a19 ?l19 ?c19 ?k19 ?a20 ?l20 ?c20 ?k20 ?a21 ?l21 ?c21 ?k21 ?a22 ?l22 ?c22 ?k22 ?a23 ?l23 ?c23 ?k23 ?a24 ?l24 ?c24 ?k24 ?a25 ?l25 ?c25 ?k25 ?a26 ?l26 ?c26 ?k26 ?th26 ?tq26 ?a27 ?l27 ?c27 ?k27 ?th27 ?tq27 ?a28 ?l28 ?c28 ?k28 ?th28 ?tq28 ?a29 ?l29 ?c29 ?k29 ?a30 ?l30 ?c30 ?k30 ?g_LETTERS ?g_MOST_NAILS ?qc_NoCord ?qc_NoNails ?qc_NoRule ?qc_NoText ?qc_NoMove ?qc_NoLine ?qc_NoName ?qc_NoNumber ?qc_TooMany ?qc_TooLong ?qc_ValueError ?qc_HangError ?w1_NoNails ?w2_NoNails ?w3_NoNails ?w4_NoNails ?w5_NoNails ?w6_NoNails ?w7_NoNails ?y_NoNails_NoCord ?y_NoNails_NoNails ?y_NoNails_NoRule ?y_NoNails_NoText ?y_NoNails_NoMove ?y_NoNails_NoLine ?y_NoNails_NoName ?y_NoNails_NoNumber ?y_NoNails_TooMany ?y_NoNails_TooLong ?y_NoNails_ValueError ?y_NoNails_HangError ?w1_TooMany ?w2_TooMany ?w3_TooMany ?w4_TooMany ?w5_TooMany ?w6_TooMany ?w7_TooMany ?y_TooMany_NoCord ?y_TooMany_NoNails ?y_TooMany_NoRule ?y_TooMany_NoText ?y_TooMany_NoMove ?y_TooMany_NoLine ?y_TooMany_NoName ?y_TooMany_NoNumber ?y_TooMany_TooMany ?y_TooMany_TooLong ?y_TooMany_ValueError ?y_TooMany_HangError ?z1 ?z2 ?z3 ?z4 ?z5 ?z6 ?z7 ?z8 ?z9 ?z10 ?z11 ?z12 ?z13 ?z14 ?z15 ?z16 ?z17 ?z18 ?z19 ?z20
  (case a1=>k_is)
  (case l1=>k_is)
  (case c1=>k_is)
  (case k1=>k_is)
  (case a2=>k_is)
  (case l2=>k_is)
  (case c2=>k_is)
  (case k2=>k_is)
  (case a3=>k_is)
  (case l3=>k_is)
  (case c3=>k_is)
  (case k3=>k_is)
  (case a4=>k_is)
  (case l4=>k_is)
  (case c4=>k_is)
  (case k4=>k_is)
  (case a5=>k_is)
  (case l5=>k_is)
  (case c5=>k_is)
  (case k5=>k_is)
  (case a6=>k_is)
  (case l6=>k_is)
  (case c6=>k_is)
  (case k6=>k_is)
  (case a7=>k_is)
  (case l7=>k_is)
  (case c7=>k_is)
  (case k7=>k_is)
  (case a8=>k_is)
  (case l8=>k_is)
  (case c8=>k_is)
  (case k8=>k_is)
  (case a9=>k_is)
  (case l9=>k_is)
  (case c9=>k_is)
  (case k9=>k_is)
  (case th9=>kernel_rfl)
  (case tq9=>exact(PL.j4 T).trans (by kernel_rfl))
  (case a10=>k_is)
  (case l10=>k_is)
  (case c10=>k_is)
  (case k10=>k_is)
  (case a11=>k_is)
  (case l11=>k_is)
  (case c11=>k_is)
  (case k11=>k_is)
  (case a12=>k_is)
  (case l12=>k_is)
  (case c12=>k_is)
  (case k12=>k_is)
  (case a13=>k_is)
  (case l13=>k_is)
  (case c13=>k_is)
  (case k13=>k_is)
  (case a14=>k_is)
  (case l14=>k_is)
  (case c14=>k_is)
  (case k14=>k_is)
  (case a15=>k_is)
  (case l15=>k_is)
  (case c15=>k_is)
  (case k15=>k_is)
  (case a16=>k_is)
  (case l16=>k_is)
  (case c16=>k_is)
  (case k16=>k_is)
  (case a17=>k_is)
  (case l17=>k_is)
  (case c17=>k_is)
  (case k17=>k_is)
  (case a18=>k_is)
  (case l18=>k_is)
  (case c18=>k_is)
  (case k18=>k_is)
  (case a19=>k_is)
  (case l19=>k_is)
  (case c19=>k_is)
  (case k19=>k_is)
  (case a20=>k_is)
  (case l20=>k_is)
  (case c20=>k_is)
  (case k20=>k_is)
  (case a21=>k_is)
  (case l21=>k_is)
  (case c21=>k_is)
  (case k21=>k_is)
  (case a22=>k_is)
  (case l22=>k_is)
  (case c22=>k_is)
  (case k22=>k_is)
  (case a23=>k_is)
  (case l23=>k_is)
  (case c23=>k_is)
  (case k23=>k_is)
  (case a24=>k_is)
  (case l24=>k_is)
  (case c24=>k_is)
  (case k24=>k_is)
  (case a25=>k_is)
  (case l25=>k_is)
  (case c25=>k_is)
  (case k25=>k_is)
  (case a26=>k_is)
  (case l26=>k_is)
  (case c26=>k_is)
  (case k26=>k_is)
  (case th26=>kernel_rfl)
  (case tq26=>exact(PL.j4 T).trans (by kernel_rfl))
  (case a27=>k_is)
  (case l27=>k_is)
  (case c27=>k_is)
  (case k27=>k_is)
  (case th27=>kernel_rfl)
  (case tq27=>exact(PL.j4 T).trans (by kernel_rfl))
  (case a28=>k_is)
  (case l28=>k_is)
  (case c28=>k_is)
  (case k28=>k_is)
  (case th28=>kernel_rfl)
  (case tq28=>exact(PL.j4 T).trans (by kernel_rfl))
  (case a29=>k_is)
  (case l29=>k_is)
  (case c29=>k_is)
  (case k29=>k_is)
  (case a30=>k_is)
  (case l30=>k_is)
  (case c30=>k_is)
  (case k30=>k_is)
  (case g_LETTERS=>k_is)
  (case g_MOST_NAILS=>k_is)
  (case qc_NoCord=>k_is)
  (case qc_NoNails=>k_is)
  (case qc_NoRule=>k_is)
  (case qc_NoText=>k_is)
  (case qc_NoMove=>k_is)
  (case qc_NoLine=>k_is)
  (case qc_NoName=>k_is)
  (case qc_NoNumber=>k_is)
  (case qc_TooMany=>k_is)
  (case qc_TooLong=>k_is)
  (case qc_ValueError=>k_is)
  (case qc_HangError=>k_is)
  (case w1_NoNails=>k_exc)
  (case w2_NoNails=>kernel_rfl)
  (case w3_NoNails=>k_is)
  (case w4_NoNails=>k_is)
  (case w5_NoNails=>k_is)
  (case w6_NoNails=>k_is)
  (case w7_NoNails=>k_is)
  (case y_NoNails_NoCord=>kit_is)
  (case y_NoNails_NoNails=>kit_is)
  (case y_NoNails_NoRule=>kit_is)
  (case y_NoNails_NoText=>kit_is)
  (case y_NoNails_NoMove=>kit_is)
  (case y_NoNails_NoLine=>kit_is)
  (case y_NoNails_NoName=>kit_is)
  (case y_NoNails_NoNumber=>kit_is)
  (case y_NoNails_TooMany=>kit_is)
  (case y_NoNails_TooLong=>kit_is)
  (case y_NoNails_ValueError=>kit_is)
  (case y_NoNails_HangError=>kts_exm)
  (case w1_TooMany=>k_exc)
  (case w2_TooMany=>kernel_rfl)
  (case w3_TooMany=>k_is)
  (case w4_TooMany=>k_is)
  (case w5_TooMany=>k_is)
  (case w6_TooMany=>k_is)
  (case w7_TooMany=>k_is)
  (case y_TooMany_NoCord=>kit_is)
  (case y_TooMany_NoNails=>kit_is)
  (case y_TooMany_NoRule=>kit_is)
  (case y_TooMany_NoText=>kit_is)
  (case y_TooMany_NoMove=>kit_is)
  (case y_TooMany_NoLine=>kit_is)
  (case y_TooMany_NoName=>kit_is)
  (case y_TooMany_NoNumber=>kit_is)
  (case y_TooMany_TooMany=>kit_is)
  (case y_TooMany_TooLong=>kit_is)
  (case y_TooMany_ValueError=>kit_is)
  (case y_TooMany_HangError=>kts_exm)
  (case z1=>k_is)
  (case z2=>k_is)
  (case z3=>k_is)
  (case z4=>k_is)
  (case z5=>k_is)
  (case z6=>k_is)
  (case z7=>k_is)
  (case z8=>k_is)
  (case z9=>k_is)
  (case z10=>k_is)
  (case z11=>k_is)
  (case z12=>k_is)
  (case z13=>k_is)
  (case z14=>k_is)
  (case z15=>k_is)
  (case z16=>k_is)
  (case z17=>k_is)
  (case z18=>k_is)
  (case z19=>k_is)
  (case z20=>k_is)
