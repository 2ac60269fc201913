import PyProof.Rows.All
import Wide.All
import OpenK.AllK
import Wide.FinOn
import Lean
import PyProof.EqAt
import PyProof.EqKinds
import PyProof.TupleCall
import KE.KRevIter
import PyProof.FactsAll.range
import PyProof.P3In
import PyProof.ZipIter
import PyProof.TupleIter
import PyProof.WalkInts
import PyProof.SeqI3
import PyProof.EnumFor
import PyProof.EnumMake
import PyProof.ListMulRoad
import PyProof.Rows.SortRev
import PyProof.SumWalkG
import PyProof.StrWalks
import PyProof.StrCalls2
import PyProof.StrLawsTight
import KE.KIntText
import PyProof.StrBlockG
import PyProof.Rows.StrItems
import PyProof.StrLawsRepr
import PyProof.SliceStr2
import PyProof.StrBlockI
import PyProof.Rows.IntBool
import PyProof.Rows.FStr
import PyProof.FString
import PyProof.FactsAll.tuple
import KE.KSortTup
import PyProof.AutoListH
import PyProof.StrOps2
import PyProof.StationsW
import PyProof.RulesAs
import OpenK.KOwn
import KE.KTryMore
import PyProof.NsDelKeeps
import PyProof.ExcArgsOwn
import PyProof.ExcInit
import PyProof.InstStoreFacts
import KE.RegKIsAll
import KE.RegKTryMore
import KE.IntBitsLaws
import KE.IntTextLaws
import PyProof.ListStr
import PyProof.DictRoadsH
import PyProof.Rows.TupTab
import PyProof.P3Eq
import PyProof.ListRange
import PyProof.TupleOfStr
import PyProof.CollectIter
import PySem.Challenge.RW_shorterline_k61_runs_as_texts
set_option Elab.async false
set_option linter.all false
set_option maxRecDepth 100000
namespace L2
open PySem PySem.Spec PyProof.Rows
abbrev Key:=Sum Int Str
def qb:Key→Value→Bool
 | .inl k,v=>Value.isInt k v
 | .inr x,v=>Value.isStrOf x v
def keyH (w:World):Key→Int
 | .inl k=>hashInt k
 | .inr x=>hashStr w x
theorem bj:∀ {k:Key} {v:Value},qb k v = true→(∃ i t,k = Sum.inl i∧v = Value.int i t)∨(∃ x t,k = Sum.inr x∧v = Value.str x t)
 | .inl i,v,h=>by
  obtain ⟨t,e⟩:=Value.isInt_shape (k:=i) (v:=v) h
  exact .inl ⟨i,t,rfl,e⟩
 | .inr x,v,h=>by
  obtain ⟨t,e⟩:=Value.isStrOf_shape (x:=x) (v:=v) h
  exact .inr ⟨x,t,rfl,e⟩
theorem u6 (i:Int) (t:Tok):qb (.inl i) (.int i t) = true:=by simp [qb,Value.isInt]
theorem qG (x:Str) (t:Tok):qb (.inr x) (.str x t) = true:=by simp [qb,Value.isStrOf]
theorem FG (a b:Int):decide ((Sum.inl a:Key) = Sum.inl b) = (a == b):=by
 by_cases e:a = b
 ·subst e; simp
 ·have h:¬ (Sum.inl a:Key) = Sum.inl b:=fun q=>e (Sum.inl.inj q)
  rw [decide_eq_false h]
  exact (beq_eq_false_iff_ne.mpr e).symm
theorem Di (a b:Str):decide ((Sum.inr a:Key) = Sum.inr b) = decide (a = b):=by
 by_cases e:a = b
 ·subst e; simp
 ·have h:¬ (Sum.inr a:Key) = Sum.inr b:=fun q=>e (Sum.inr.inj q)
  rw [decide_eq_false h,decide_eq_false e]
theorem CV (a:Int) (b:Str):decide ((Sum.inl a:Key) = Sum.inr b) = false:=decide_eq_false (fun q=>nomatch q)
theorem EH (a:Str) (b:Int):decide ((Sum.inr a:Key) = Sum.inl b) = false:=decide_eq_false (fun q=>nomatch q)
def bJ (prog:Program) (w:World):PySem.KeyKind prog w Key where
 is:=qb
 hash:=keyH w
 inj:=fun v a b ha hb=>by
  rcases bj ha with ⟨i,t,rfl,rfl⟩ | ⟨x,t,rfl,rfl⟩
  ·rcases bj hb with ⟨j,u,rfl,e⟩ | ⟨y,u,rfl,e⟩
   ·injection e with e1 _; rw [e1]
   ·exact nomatch e
  ·rcases bj hb with ⟨j,u,rfl,e⟩ | ⟨y,u,rfl,e⟩
   ·exact nomatch e
   ·injection e with e1 _; rw [e1]
 byValue:=fun k v h=>by
  rcases bj h with ⟨i,t,rfl,rfl⟩ | ⟨x,t,rfl,rfl⟩ <;> rfl
 pyHash:=fun hv h=>by
  rcases bj hv with ⟨i,t,rfl,rfl⟩ | ⟨x,t,rfl,rfl⟩
  ·exact wpAny_pyHash_int h
  ·exact wpAny_pyHash_str h
 eqBool:=fun hu hv h=>by
  rcases bj hu with ⟨i,t,rfl,rfl⟩ | ⟨x,t,rfl,rfl⟩
  ·rcases bj hv with ⟨j,u,rfl,rfl⟩ | ⟨y,u,rfl,rfl⟩
   ·rw [FG] at h; exact wpAny_eqBool_int h
   ·rw [CV] at h; exact SeqAt.EqAt.int_str i t y u _ _ _ _ h
  ·rcases bj hv with ⟨j,u,rfl,rfl⟩ | ⟨y,u,rfl,rfl⟩
   ·rw [EH] at h; exact SeqAt.EqAt.str_int x t j u _ _ _ _ h
   ·rw [Di] at h; exact wpAny_eqBool_str h
 «strs»:=fun k x t v h=>by
  rcases bj h with ⟨i,u,rfl,e⟩ | ⟨y,u,rfl,e⟩
  ·exact nomatch e
  ·injection e with e1 _
   subst e1
   cases v <;> rfl
theorem mW (prog:Program) (w:World) (i:Int) (t:Tok):(bJ prog w).is (.inl i) (.int i t) = true:=u6 i t
theorem my (prog:Program) (w:World) (x:Str) (t:Tok):(bJ prog w).is (.inr x) (.str x t) = true:=qG x t
inductive V where
 | non | bl (b:Bool) | int (i:Int) | str (x:Str) | byt (b:Array UInt8) | flt (b:UInt64) | ref (a:Addr) | ty (n:String)
 deriving DecidableEq
def RelV:V→Value→Prop
 | .non,u=>u = Value.none
 | .bl b,u=>u = Value.bool b
 | .int i,u=>∃ t,u = Value.int i t
 | .str x,u=>∃ t,u = Value.str x t
 | .byt b,u=>∃ t,u = Value.bytes b t
 | .flt b,u=>∃ t,u = Value.float b t
 | .ref a,u=>u = Value.ref a
 | .ty n,u=>u = Value.type n
abbrev Vals:List V→List Value→Prop:=Paired RelV
theorem Vals.length {xs:List V} {us:List Value} (r:Vals xs us):xs.length = us.length:=Paired.length r
theorem Vals.get:∀ {xs:List V} {us:List Value} {i:Nat} {x:V},Vals xs us→xs[i]? = some x→∃ u,us[i]? = some u∧RelV x u
 | _,_,_,_,.nil,e=>by simp at e
 | _,_,0,_,.cons r _,e=>by simp at e; subst e; exact ⟨_,rfl,r⟩
 | _,_,i + 1,x,.cons _ t,e=>by
  obtain ⟨u,h1,h2⟩:=Vals.get (i:=i) (x:=x) t (by simpa using e)
  exact ⟨u,by simpa using h1,h2⟩
theorem Vals.set {x:V} {u:Value} (r:RelV x u):∀ {xs:List V} {us:List Value} (i:Nat),Vals xs us→Vals (xs.set i x) (us.set i u)
 | _,_,_,.nil=>.nil
 | _,_,0,.cons _ t=>.cons r t
 | _,_,i + 1,.cons q t=>.cons q (Vals.set r i t)
theorem Vals.append:∀ {xs ys:List V} {us ws:List Value},Vals xs us→Vals ys ws→Vals (xs++ys) (us++ws)
 | _,_,_,_,.nil,s=>s
 | _,_,_,_,.cons r t,s=>.cons r (Vals.append t s)
theorem Vals.take:∀ {xs:List V} {us:List Value} (n:Nat),Vals xs us→Vals (xs.take n) (us.take n)
 | _,_,0,_=>.nil
 | _,_,_ + 1,.nil=>.nil
 | _,_,n + 1,.cons r t=>.cons r (Vals.take n t)
theorem Vals.drop:∀ {xs:List V} {us:List Value} (n:Nat),Vals xs us→Vals (xs.drop n) (us.drop n)
 | _,_,0,r=>r
 | _,_,_ + 1,.nil=>.nil
 | _,_,n + 1,.cons _ t=>Vals.drop n t
def RelO:Option V→Option Value→Prop
 | some v,some u=>RelV v u
 | none,none=>True
 | _,_=>False
def KV {κ : Type}:List (κ×V)→List (κ×Value)→Prop:=Paired fun (p : κ×V) (q : κ×Value)=>p.1 = q.1∧RelV p.2 q.2
def kV:Key→V
 | .inl i=>.int i
 | .inr x=>.str x
inductive HO where
 | lst (xs:List V)
 | tup (xs:List V)
 | dK (kvs:List (Key×V)) | dT (kvs:List (List Key×V))
 | set (S:Int→Bool) (n:Nat)
 | ins (C dx:Addr) (fs:List (Str×V))
 | own (x:Addr)
 | xd (fs:List (Str×V))
 | met (f x:Addr)
 | rng (lo hi:Int)
 | frz (o:Obj) (u:HO)
 | tbl (ps:Array Value)
 | ext (φ : Heap→Prop)
abbrev Hp:=Addr→Option HO
def upd (H:Hp) (a:Addr) (o:HO):Hp:=fun b=>if b = a then some o else H b
theorem aC {H:Hp} {a:Addr} {o:HO}:upd H a o a = some o:=by unfold upd; rw [if_pos rfl]
theorem av {H:Hp} {a b:Addr} {o:HO} (h:b≠a):upd H a o b = H b:=by unfold upd; rw [if_neg h]
theorem qh {H:Hp} {a b:Addr} {o u:HO} (h:H a = some o) (h':H b = some u) (d:o≠u):a≠b:=by
 intro e; subst e; rw [h] at h'; exact d (Option.some.inj h')
theorem aU {H:Hp} {a b:Addr} {o:HO} (h:H a = some o) (h':H b = none):a≠b:=by
 intro e; subst e; rw [h] at h'; cases h'
def PlainT (h:Heap) (a:Addr) (items:Array Value):Prop:=∃ o,h.get? a = some o∧o.cls = .type "tuple" ∧ o.dict = none∧∃ n,o.data = .seq items n
theorem PlainT.tup {h:Heap} {a:Addr} {items:Array Value} (x:PlainT h a items):IsTup h a items:=let ⟨o,e,c,_,d⟩:=x; ⟨o,e,c,d⟩
theorem PlainT.new (h:Heap) (items:Array Value):PlainT (h.push { cls:=.type "tuple",data:=.seq items }) h.objs.size items:=⟨_,Heap.get?_push_size _ rfl,rfl,rfl,_,rfl⟩
section
variable (P:Program) (w:World)
def ObjOk (H:Hp) (h:Heap) (a:Addr):HO→Prop
 | .lst xs=>xs.length≤sizeLine∧∃ (its:List Value) (n:Nat),Vals xs its∧h.get? a = some { cls:=.type "list",data:=.seq its.toArray n }
 | .tup xs=>xs.length≤sizeLine∧∃ its:List Value,Vals xs its∧PlainT h a its.toArray
 | .dK kvs=>kvs.length≤sizeLine∧(a == sysModules) = false∧∃ vs,KV kvs vs∧h.DictOf (bJ P w) a vs
 | .dT kvs=>kvs.length≤sizeLine∧(a == sysModules) = false∧∃ xs:List (List Key×Addr×Value),
   Paired (fun (p:List Key×V) (q:List Key×Addr×Value)=>p.1 = q.1∧H q.2.1 = some (.tup (p.1.map kV))∧RelV p.2 q.2.2) kvs xs ∧
   ∃ o es ep,h.get? a = some o∧o.ExactDict∧o.data = .dict es ep∧es.toList = xs.map (entryOfKey (tupleKind (bJ P w)))∧(xs.map (·.1)).Nodup
 | .set S n=>h.SetOf (intKind P w) a S n
 | .ins C dx fs=>H dx = some (.own a)∧fs.length≤1000∧dx≠a∧h.get? a = some (PySem.W.instObj C dx) ∧
   ∃ mA,h.Ns1 dx mA∧(∀ f,RelO (fs.lookup f) (mA f))∧PySem.Within mA (fs.map (·.1))
 | .own _=>∃ o,h.get? a = some o
 | .xd fs=>∃ mA,h.Ns1 a mA∧∀ f,RelO (fs.lookup f) (mA f)
 | .rng lo hi=>∃ t u v,h.get? a = some { cls:=.type "range",data:=.fields #[.int lo t,.int hi u,.int 1 v] }
 | .frz o u=>h.get? a = some o∧ObjOk H h a u
 | .tbl ps=>h.get? a = some { cls:=.none,data:=.fields ps }
 | .met f x=>h.get? a = some (PySem.W.methodObj (.ref f) (.ref x))
 | .ext φ=>φ h∧(∃ o,h.get? a = some o)∧∀ h1 h2:Heap,φ h1→(∀ o,h1.get? a = some o→h2.get? a = some o)→φ h2
def HOk (H:Hp) (h:Heap):Prop:=∀ a o,H a = some o→ObjOk P w H h a o
end
section
variable {P:Program} {w:World} {H H':Hp} {h h':Heap} {a:Addr} {o:HO}
theorem ObjOk.lt (x:ObjOk P w H h a o):a < h.objs.size:=by
 cases o with
 | lst xs=>obtain ⟨_,_,_,_,e⟩:=x; exact Heap.lt_size e
 | tup xs=>obtain ⟨_,_,_,p⟩:=x; exact p.tup.lt
 | dK kvs=>obtain ⟨_,_,_,_,o,_,_,e,_⟩:=x; exact Heap.lt_size e
 | dT kvs=>obtain ⟨_,_,_,_,o,_,_,e,_⟩:=x; exact Heap.lt_size e
 | set S n=>obtain ⟨o,_,_,_,e,_⟩:=x; exact Heap.lt_size e
 | ins C dx fs=>obtain ⟨_,_,_,e,_⟩:=x; exact Heap.lt_size e
 | own y=>obtain ⟨_,e⟩:=x; exact Heap.lt_size e
 | xd fs=>obtain ⟨_,⟨_,_,_,e,_⟩,_⟩:=x; exact Heap.lt_size e
 | rng lo hi=>obtain ⟨_,_,_,e⟩:=x; exact Heap.lt_size e
 | frz ob u=>obtain ⟨e,_⟩:=x; exact Heap.lt_size e
 | tbl ps=>exact Heap.lt_size (show h.get? a = some _ from x)
 | met f y=>exact Heap.lt_size (show h.get? a = some _ from x)
 | ext φ=>obtain ⟨_,⟨_,e⟩,_⟩:=x; exact Heap.lt_size e
theorem Paired.mapP {α β : Type} {F G : α→β→Prop}:∀ {l₁ : List α} {l₂ : List β},Paired F l₁ l₂→(∀ a b,F a b→G a b)→Paired G l₁ l₂
 | _,_,.nil,_=>.nil
 | _,_,.cons r t,f=>.cons (f _ _ r) (Paired.mapP t f)
theorem ObjOk.stay (x:ObjOk P w H h a o) (k:∀ b u,(b = a∨H b = some (.own a))→h.get? b = some u→h'.get? b = some u)
  (ho:∀ b,H b = some (.own a)→H' b = some (.own a)) (ht:∀ b xs,H b = some (.tup xs)→H' b = some (.tup xs)):ObjOk P w H' h' a o:=by
 induction o with
 | lst xs=>obtain ⟨z,its,n,r,e⟩:=x; exact ⟨z,its,n,r,k _ _ (.inl rfl) e⟩
 | tup xs=>obtain ⟨z,its,r,ob,e,c⟩:=x; exact ⟨z,its,r,ob,k _ _ (.inl rfl) e,c⟩
 | dK kvs=>obtain ⟨z,y,vs,r,ob,es,ep,e,c⟩:=x; exact ⟨z,y,vs,r,ob,es,ep,k _ _ (.inl rfl) e,c⟩
 | dT kvs =>
  obtain ⟨z,y,xs,r,ob,es,ep,e,c⟩:=x
  exact ⟨z,y,xs,Paired.mapP r fun p q z=>⟨z.1,ht _ _ z.2.1,z.2.2⟩,ob,es,ep,k _ _ (.inl rfl) e,c⟩
 | set S n=>obtain ⟨ob,es,ep,t,e,c⟩:=x; exact ⟨ob,es,ep,t,k _ _ (.inl rfl) e,c⟩
 | ins C dx fs =>
  obtain ⟨d,z,ne,e,mA,⟨od,es,ep,e2,c⟩,r⟩:=x
  exact ⟨ho _ d,z,ne,k _ _ (.inl rfl) e,mA,⟨od,es,ep,k _ _ (.inr d) e2,c⟩,r⟩
 | own y=>obtain ⟨ob,e⟩:=x; exact ⟨ob,k _ _ (.inl rfl) e⟩
 | xd fs=>obtain ⟨mA,⟨od,es,ep,e,c⟩,r⟩:=x; exact ⟨mA,⟨od,es,ep,k _ _ (.inl rfl) e,c⟩,r⟩
 | rng lo hi=>obtain ⟨t,u,v,e⟩:=x; exact ⟨t,u,v,k _ _ (.inl rfl) e⟩
 | frz ob u ih=>obtain ⟨e,q⟩:=x; exact ⟨k _ _ (.inl rfl) e,ih q⟩
 | tbl ps =>
  have e:h.get? a = some { cls:=.none,data:=.fields ps }:=x
  show h'.get? a = some { cls:=.none,data:=.fields ps }
  exact k a _ (.inl rfl) e
 | met f y =>
  have e:h.get? a = some (PySem.W.methodObj (.ref f) (.ref y)):=x
  show h'.get? a = some (PySem.W.methodObj (.ref f) (.ref y))
  exact k a _ (.inl rfl) e
 | ext φ=>obtain ⟨p,⟨o,e⟩,st⟩:=x; exact ⟨st _ _ p fun o q=>k _ _ (.inl rfl) q,⟨o,k _ _ (.inl rfl) e⟩,st⟩
theorem HOk.lt (x:HOk P w H h) (e:H a = some o):a < h.objs.size:=(x a o e).lt
theorem HOk.fresh (x:HOk P w H h) (e:h.objs.size≤a):H a = none:=by
 cases q:H a with
 | none=>rfl
 | some u=>exact absurd (Nat.lt_of_lt_of_le (x.lt q) e) (Nat.lt_irrefl _)
theorem HOk.kept (x:HOk P w H h) (k:∀ b u,h.get? b = some u→h'.get? b = some u):HOk P w H h':=fun a o e =>
 (x a o e).stay (fun b u _ q=>k b u q) (fun _ q=>q) fun _ _ q=>q
theorem HOk.laid (x:HOk P w H h) (k:∀ b u,h.get? b = some u→h'.get? b = some u) (hp:h.objs.size≤a) (new:ObjOk P w (upd H a o) h' a o):HOk P w (upd H a o) h':=fun b u e=>by
 have hn:=x.fresh hp
 by_cases hb:b = a
 ·subst hb; rw [aC] at e; cases e; exact new
 ·rw [av hb] at e
  exact (x b u e).stay (fun c v _ q=>k c v q) (fun c q=>by rw [av (aU q hn)]; exact q) fun c xs q=>by rw [av (aU q hn)]; exact q
end
def Rd (H:Hp) (a:Addr) (u:HO):Prop:=H a = some u∨∃ o,H a = some (.frz o u)
theorem Rd.ok {P:Program} {w:World} {H:Hp} {h:Heap} {a:Addr} {u:HO} (r:Rd H a u) (x:HOk P w H h):ObjOk P w H h a u:=by
 rcases r with r | ⟨o,r⟩
 ·exact x a u r
 ·obtain ⟨_,q⟩:=x a _ r
  exact q
def Mut:Option HO→Prop
 | some (.lst _)=>True
 | some (.dK _)=>True
 | some (.dT _)=>True
 | some (.set _ _)=>True
 | some (.ins _ _ _)=>True
 | some (.ext _)=>True
 | _=>False
section
variable {P:Program} {w:World} {H:Hp} {h h':Heap} {x e:Addr} {o':HO}
theorem HOk.write (ok:HOk P w H h) (mu:Mut (H x)) (he:e = x∨H e = some (.own x)) (k:∀ b u,b≠e→h.get? b = some u→h'.get? b = some u) (heo:∃ u,h'.get? e = some u)
  (new:ObjOk P w (upd H x o') h' x o'):HOk P w (upd H x o') h':=fun b u q=>by
 have nown:∀ c y,H c = some (.own y)→c≠x:=fun c y r z=>by subst z; rw [r] at mu; exact mu
 have ntup:∀ c xs,H c = some (.tup xs)→c≠x:=fun c xs r z=>by subst z; rw [r] at mu; exact mu
 by_cases hb:b = x
 ·subst hb; rw [aC] at q; cases q; exact new
 ·rw [av hb] at q
  by_cases hbe:b = e
  ·have q':H b = some (.own x):=by
    rcases he with z | z
    ·exact absurd (hbe.trans z) hb
    ·rw [hbe]; exact z
   rw [q] at q'; cases q'
   obtain ⟨v,hv⟩:=heo
   exact ⟨v,by rw [hbe]; exact hv⟩
  ·refine (ok b u q).stay (fun c v hc r=>k c v ?_ r) (fun c r=>by rw [av (nown c b r)]; exact r) fun c xs r=>by rw [av (ntup c xs r)]; exact r
   rcases hc with rfl | hc
   ·exact hbe
   ·rintro rfl
    rcases he with z | z
    ·exact nown c b hc z
    ·rw [hc] at z; cases z; exact hb rfl
end
structure Un (fs ex:List Addr) (H H':Hp) (h h':Heap):Prop where
 keep:∀ b o,h.get? b = some o→H b = none→b∉fs→b∉ex→h'.get? b = some o
 slot:∀ b o,h.get? b = some o→H b = none→b∈fs→b∉ex→∃ sl,h'.get? b = some { o with slots:=sl }
 free:∀ b o,h.get? b = some o→H b = none→b∉ex→H' b = none
 there:∀ b o,h.get? b = some o→b∉ex→∃ o',h'.get? b = some o'
 tups:∀ b xs,H b = some (.tup xs)→H' b = some (.tup xs)
 frzs:∀ b o u,H b = some (.frz o u)→H' b = some (.frz o u)
 tbls:∀ b ps,H b = some (.tbl ps)→∃ more,H' b = some (.tbl (ps++more))
section
variable {fs fs' ex ex':List Addr} {H H1 H2:Hp} {h h1 h2 h':Heap} {a x e:Addr} {o:HO}
theorem Un.any (u:Un fs ex H H1 h h1) {b:Addr} {ob:Obj} (q:h.get? b = some ob) (n:H b = none) (hx:b∉ex):∃ sl,h1.get? b = some { ob with slots:=sl }:=by
 by_cases hb:b∈fs
 ·exact u.slot b ob q n hb hx
 ·exact ⟨ob.slots,u.keep b ob q n hb hx⟩
theorem Un.kept (k:∀ b u,h.get? b = some u→h'.get? b = some u):Un fs ex H H h h' :=
 ⟨fun b ob q _ _ _=>k b ob q,fun b ob q _ _ _=>⟨ob.slots,k b ob q⟩,fun _ _ _ n _=>n,fun b ob q _=>⟨ob,k b ob q⟩,fun _ _ q=>q,fun _ _ _ q=>q,fun _ ps q=>⟨#[],by rw [q]; simp⟩⟩
theorem Un.refl:Un fs ex H H h h:=Un.kept fun _ _ q=>q
theorem Un.laid (k:∀ b u,h.get? b = some u→h'.get? b = some u) (hp:h.objs.size≤a) (hn:H a = none):Un fs ex H (upd H a o) h h' where
 keep:=fun b u q _ _ _=>k b u q
 slot:=fun b u q _ _ _=>⟨u.slots,k b u q⟩
 free:=fun b u q n _=>by rw [av (Nat.ne_of_lt (Nat.lt_of_lt_of_le (Heap.lt_size q) hp))]; exact n
 there:=fun b u q _=>⟨u,k b u q⟩
 tups:=fun b xs q=>by rw [av (aU q hn)]; exact q
 frzs:=fun b u xs q=>by rw [av (aU q hn)]; exact q
 tbls:=fun b ps q=>⟨#[],by rw [av (aU q hn),q]; simp⟩
theorem Un.write (mu:Mut (H x)) (he:e = x∨H e = some (.own x)) (k:∀ b u,b≠e→h.get? b = some u→h'.get? b = some u) (heo:∃ u,h'.get? e = some u):Un fs ex H (upd H x o) h h':=by
 have hx:∀ b,H b = none→b≠x:=fun b n z=>by subst z; rw [n] at mu; exact mu
 have hb:∀ b,H b = none→b≠e:=fun b n z=>by
  subst z
  rcases he with r | r
  ·exact hx b n r
  ·rw [n] at r; cases r
 have hm:∀ b u,H b = some u→¬ Mut (some u)→b≠x:=fun b u q nm z=>by subst z; rw [q] at mu; exact nm mu
 refine ⟨fun b u q n _ _=>k b u (hb b n) q,fun b u q n _ _=>⟨u.slots,k b u (hb b n) q⟩,fun b u q n _=>by rw [av (hx b n)]; exact n,fun b u q _=>?_,
  fun b xs q=>by rw [av (hm b _ q fun z=>z)]; exact q,fun b u xs q=>by rw [av (hm b _ q fun z=>z)]; exact q,fun b ps q=>⟨#[],by rw [av (hm b _ q fun z=>z),q]; simp⟩⟩
 by_cases hbe:b = e
 ·subst hbe; exact heo
 ·exact ⟨u,k b u hbe q⟩
end
def trk (h:Heap) (H:Hp):List Addr:=(List.range h.objs.size).filter fun a=>(H a).isSome
def hidT (h:Heap) (H:Hp):Heap:=PySem.W.hideAll h (trk h H)
theorem sE (h:Heap) (H:Hp):(hidT h H).objs.size = h.objs.size:=PySem.W.hideAll_size _ _
theorem vN {h:Heap} {H:Hp} {b:Addr} {o:Obj} (e:h.get? b = some o) (n:H b = none):(hidT h H).get? b = some o :=
 PySem.W.hideAll_get _ e fun hm=>by
  have q:(H b).isSome = true:=(List.mem_filter.mp hm).2
  rw [n] at q; simp at q
theorem Ap {h:Heap} {H:Hp} {b:Addr} {o:Obj} (e:(hidT h H).get? b = some o):h.get? b = some o∧H b = none:=by
 have e':h.get? b = some o:=PySem.W.of_hideAll (trk h H) e
 refine ⟨e',?_⟩
 cases q:H b with
 | none=>rfl
 | some x =>
  have hm:b∈trk h H:=List.mem_filter.mpr ⟨List.mem_range.mpr (Heap.lt_size e'),by simp [q]⟩
  have z:(hidT h H).get? b = none:=PySem.W.hideAll_none (trk h H) hm
  rw [z] at e; cases e
structure Mod (K:PySem.W.Frag) (mg:Str→Option Value) (base:Heap):Prop where
 kin:K.In base
 glob:base.Ns mainGlobals mg
 blt:∃ mb,base.Ns builtinsNs mb∧∀ x:Str,x ≠ "__name__" → mb x = bootBuiltins x
 nolimit:base.NoLimit
 sys:∃ m,base.Ns sysModules m
inductive Ao where
 | L (a:Addr) | T (t:List (List Nat×Addr))
structure EB where
 np:Nat
 be:List Ao
 H:Hp
structure Cx where
 prog:Program
 w:World
 K:PySem.W.Frag
 mg:Str→Option Value
 base:Heap
 A:Around
 N:List Str
 s₀ : Shared
 H₀ : Hp
 env:Env
 outer:List Env
 stack:List Env
 ex:List Addr
 fn:Str→Bool
 calm:Bool
 pn:List (Addr×Obj)
 xe:Value→Shared→Prop
 eb:EB:=⟨0,[],fun _=>none⟩
def frs (l:List Env):List Addr:=l.filterMap (·.frame)
abbrev Cx.fs (X:Cx):List Addr:=frs X.outer
def Vis (sc:Scope) (x:Str):Prop:=sc.names.lookup x = some .local∨sc.names.lookup x = some .cell∨sc.names.lookup x = some .free
def Loc (sc:Scope) (x:Str):Prop:=sc.names.lookup x = some .local∨sc.names.lookup x = some .cell
def Look (env:Env) (h:Heap) (m:Str→Option Value) (x:Str) (u:Value):Prop :=
 (env.kindOf x = some .local∧m x = some u)∨((env.kindOf x = some .cell∨env.kindOf x = some .free)∧∃ c,env.cells.lookup x = some c∧h.IsCell c (some u))
structure Cx.Ok (X:Cx):Prop where
 mod:Mod X.K X.mg X.base
 kind:X.env.scope.kind = .function
 glob:X.env.globals = mainGlobals
 blt:X.env.builtins = builtinsNs
 above:X.s₀.heap.objs.size≤X.env.locals
 inj:∀ x y c,X.env.cells.lookup x = some c→X.env.cells.lookup y = some c→x = y
 has:∀ x,(X.env.kindOf x = some .cell∨X.env.kindOf x = some .free)→∃ c,X.env.cells.lookup x = some c
 cab:∀ x c,X.fn x = true→X.env.cells.lookup x = some c→X.s₀.heap.objs.size≤c
 hd:X.calm = true→X.A.handled = none
 frames:X.A.frames = some X.stack
 stk:X.stack = X.outer∨(X.stack = X.env :: X.outer∧X.env.frame = some X.env.locals)
 exf:∀ b∈X.ex,b≠X.env.locals∧∀ x c,X.env.cells.lookup x = some c→c≠b
 bs:∀ b o,X.base.get? b = some o→X.s₀.heap.get? b = some o∧X.H₀ b = none
 bsz:X.base.objs.size≤X.s₀.heap.objs.size
 noex:∀ b o,X.base.get? b = some o→b∉X.ex
 exfs:∀ b∈X.ex,b∉X.fs
 funs:X.s₀.heap.FunFrames X.base X.outer
 frf:∀ b∈X.fs,X.H₀ b = none
structure Inv (X:Cx) (pins:List (Addr×Obj)) (σ : List (Option V)) (H:Hp) (s:Shared):Prop where
 ok:X.Ok
 os:s.os = X.s₀.os
 bare:AllBare s.gens
 base:Un X.fs X.ex X.H₀ H X.s₀.heap s.heap
 loc:∃ m,s.heap.Ns X.env.locals m∧∀ (i:Nat) (x:Str) (v:V),X.N[i]? = some x→σ[i]? = some (some v)→Vis X.env.scope x→∃ u,RelV v u∧Look X.env s.heap m x u
 cell:∀ x c,X.env.cells.lookup x = some c→∃ v,s.heap.IsCell c v
 free:H X.env.locals = none
 freeC:∀ x c,X.env.cells.lookup x = some c→H c = none
 pin:∀ p∈X.pn++pins,s.heap.get? p.1 = some p.2∧H p.1 = none∧p.1≠X.env.locals∧p.1∉X.fs∧∀ v,p.2.data≠.cell v
 hok:HOk X.prog X.w H s.heap
 len : σ.length = X.N.length
section
variable {X:Cx} {pins:List (Addr×Obj)} {σ : List (Option V)} {H H':Hp} {s:Shared} {h':Heap}
theorem Cx.Ok.nofr (ok:X.Ok) {b:Addr} {o:Obj} (e:X.base.get? b = some o):b∉X.fs:=fun hb=>by
 have:=(ok.funs.mem hb).1
 rw [e] at this; cases this
theorem Inv.bs (I:Inv X pins σ H s):∀ b o,X.base.get? b = some o→s.heap.get? b = some o∧H b = none:=fun b o e =>
 ⟨I.base.keep b o (I.ok.bs b o e).1 (I.ok.bs b o e).2 (I.ok.nofr e) (I.ok.noex b o e),I.base.free b o (I.ok.bs b o e).1 (I.ok.bs b o e).2 (I.ok.noex b o e)⟩
theorem Inv.bk (I:Inv X pins σ H s):∀ b o,X.base.get? b = some o→s.heap.get? b = some o:=fun b o e=>(I.bs b o e).1
theorem Inv.mod (I:Inv X pins σ H s):Mod X.K X.mg X.base:=I.ok.mod
theorem Inv.kIn (I:Inv X pins σ H s):X.K.In s.heap:=I.ok.mod.kin.keeps I.bk
theorem Inv.lt (I:Inv X pins σ H s):X.env.locals < s.heap.objs.size:=let ⟨_,hn,_⟩:=I.loc; hn.lt
theorem Inv.sz (I:Inv X pins σ H s):X.s₀.heap.objs.size≤s.heap.objs.size:=Nat.le_trans I.ok.above (Nat.le_of_lt I.lt)
theorem Inv.nofs (I:Inv X pins σ H s) {a:Addr} (h:s.heap.objs.size≤a):a∉X.fs:=fun hb=>by
 obtain ⟨_,o,ho,_⟩:=I.ok.funs.mem hb
 exact absurd (Nat.lt_of_lt_of_le (Heap.lt_size ho) (Nat.le_trans I.sz h)) (Nat.lt_irrefl _)
theorem Inv.cne (I:Inv X pins σ H s):∀ x c,X.env.cells.lookup x = some c→c≠X.env.locals:=fun x c e z=>by
 obtain ⟨v,o,ho,hd⟩:=I.cell x c e
 obtain ⟨m,⟨o',es,ep,ho',hd',_⟩,_⟩:=I.loc
 rw [z,ho'] at ho; cases ho; rw [hd'] at hd; cases hd
theorem Inv.funs (I:Inv X pins σ H s):s.heap.FunFrames X.base X.outer:=by
 have all:∀ (l:List Env),(∀ b∈frs l,b∈X.fs)→X.s₀.heap.FunFrames X.base l→s.heap.FunFrames X.base l:=by
  intro l
  induction l with
  | nil=>intro _ _; trivial
  | cons env r ih =>
   intro hs hl
   obtain ⟨hk,⟨L,o,hf,hn,ho,hd⟩,hr⟩:=hl
   have hL:L∈X.fs:=hs L (by unfold frs; rw [List.filterMap_cons,hf]; exact List.mem_cons_self)
   obtain ⟨sl,e⟩:=I.base.slot L o ho (I.ok.frf L hL) hL fun z=>I.ok.exfs L z hL
   exact ⟨hk,⟨L,_,hf,hn,e,hd⟩,ih (fun b hb=>hs b (by unfold frs; rw [List.filterMap_cons,hf]; exact List.mem_cons_of_mem _ hb)) hr⟩
 exact all X.outer (fun _ hb=>hb) I.ok.funs
theorem Inv.stack (I:Inv X pins σ H s):s.heap.FunFrames X.base X.stack:=by
 rcases I.ok.stk with e | ⟨e,hf⟩
 ·rw [e]; exact I.funs
 ·rw [e]
  obtain ⟨m,hn,_⟩:=I.loc
  refine .cons (by rw [I.ok.kind]; decide) hf hn ?_ I.funs
  exact Heap.get?_none_of_le (Nat.le_trans I.ok.bsz I.ok.above)
theorem Inv.stkSub (I:Inv X pins σ H s):∀ b∈frs X.stack,b∈X.env.locals :: X.fs:=fun b hb=>by
 rcases I.ok.stk with e | ⟨e,hf⟩
 ·rw [e] at hb; exact List.mem_cons_of_mem _ hb
 ·rw [e] at hb
  unfold frs at hb
  rw [List.filterMap_cons,hf] at hb
  exact hb
theorem Inv.stkFree (I:Inv X pins σ H s):∀ b∈frs X.stack,H b = none:=fun b hb=>by
 rcases List.mem_cons.mp (I.stkSub b hb) with e | hb
 ·rw [e]; exact I.free
 ·obtain ⟨_,o,ho,_⟩:=I.ok.funs.mem hb
  exact I.base.free b o ho (I.ok.frf b hb) fun z=>I.ok.exfs b z hb
theorem Inv.step {g':Array GenState} {t':Nat} {d':Drawn} {ch:List Addr} (I:Inv X pins σ H s)
  (hch:∀ b∈ch,(b∈X.ex∨X.s₀.heap.objs.size≤b)∧b≠X.env.locals∧(∀ x c,X.env.cells.lookup x = some c→c≠b)∧∀ p∈X.pn++pins,p.1≠b)
  (keep:∀ b o,b≠X.env.locals→b∉X.fs→b∉ch→s.heap.get? b = some o→H b = none→h'.get? b = some o)
  (slot:∀ b o,b≠X.env.locals→b∈X.fs→b∉ch→s.heap.get? b = some o→H b = none→∃ sl,h'.get? b = some { o with slots:=sl }) (free:∀ b o,b∉ch→s.heap.get? b = some o→H b = none→H' b = none)
  (there:∀ b o,b∉ch→s.heap.get? b = some o→∃ o',h'.get? b = some o')
  (tups:∀ b xs,H b = some (.tup xs)→H' b = some (.tup xs)) (frzs:∀ b o u,H b = some (.frz o u)→H' b = some (.frz o u)) (tbls:∀ b ps,H b = some (.tbl ps)→∃ more,H' b = some (.tbl (ps++more)))
  (ns:∀ m,s.heap.Ns X.env.locals m→h'.Ns X.env.locals m) (hok:HOk X.prog X.w H' h') (hg:AllBare g') :
  Inv X pins σ H' { s with heap:=h',gens:=g',drawn:=d',toks:=t' }:=by
 have neL:∀ b o,X.s₀.heap.get? b = some o→b≠X.env.locals:=fun b o e=>Nat.ne_of_lt (Nat.lt_of_lt_of_le (Heap.lt_size e) I.ok.above)
 have neC:∀ b o,X.s₀.heap.get? b = some o→b∉X.ex→b∉ch:=fun b o e hx hb=>by
  rcases (hch b hb).1 with z | z
  ·exact hx z
  ·exact absurd (Nat.lt_of_lt_of_le (Heap.lt_size e) z) (Nat.lt_irrefl _)
 have cellK:∀ x c,X.env.cells.lookup x = some c→∀ v,s.heap.IsCell c v→h'.IsCell c v:=fun x c e v ⟨o,ho,hd⟩=>by
  have nch:c∉ch:=fun z=>(hch c z).2.2.1 x c e rfl
  by_cases hc:c∈X.fs
  ·obtain ⟨sl,q⟩:=slot c o (I.cne x c e) hc nch ho (I.freeC x c e)
   exact ⟨_,q,hd⟩
  ·exact ⟨o,keep c o (I.cne x c e) hc nch ho (I.freeC x c e),hd⟩
 refine ⟨I.ok,I.os,hg,⟨fun b o e n hb hx=>?_,fun b o e n hb hx=>?_,fun b o e n hx=>?_,fun b o e hx=>?_,fun b xs e=>tups b xs (I.base.tups b xs e),fun b o xs e=>frzs b o xs (I.base.frzs b o xs e),fun b ps e=>?_⟩,?_,fun x c e=>?_,?_,fun x c e=>?_,fun p hp=>?_,hok,I.len⟩
 ·exact keep b o (neL b o e) hb (neC b o e hx) (I.base.keep b o e n hb hx) (I.base.free b o e n hx)
 ·obtain ⟨sl,e1⟩:=I.base.slot b o e n hb hx
  obtain ⟨sl',e2⟩:=slot b _ (neL b o e) hb (neC b o e hx) e1 (I.base.free b o e n hx)
  exact ⟨sl',e2⟩
 ·obtain ⟨o',e1⟩:=I.base.there b o e hx
  exact free b o' (neC b o e hx) e1 (I.base.free b o e n hx)
 ·obtain ⟨o',e1⟩:=I.base.there b o e hx
  exact there b o' (neC b o e hx) e1
 ·obtain ⟨m1,e1⟩:=I.base.tbls b ps e
  obtain ⟨m2,e2⟩:=tbls b _ e1
  exact ⟨m1++m2,by rw [e2,Array.append_assoc]⟩
 ·obtain ⟨m,hn,hl⟩:=I.loc
  refine ⟨m,ns m hn,fun i x v e1 e2 e3=>?_⟩
  obtain ⟨u,r,l⟩:=hl i x v e1 e2 e3
  refine ⟨u,r,?_⟩
  rcases l with l | ⟨k,c,e,z⟩
  ·exact .inl l
  ·exact .inr ⟨k,c,e,cellK x c e _ z⟩
 ·obtain ⟨v,z⟩:=I.cell x c e
  exact ⟨v,cellK x c e v z⟩
 ·obtain ⟨m,⟨o,_,_,ho,_⟩,_⟩:=I.loc
  exact free _ o (fun z=>(hch _ z).2.1 rfl) ho I.free
 ·obtain ⟨v,o,ho,hd⟩:=I.cell x c e
  exact free c o (fun z=>(hch c z).2.2.1 x c e rfl) ho (I.freeC x c e)
 ·obtain ⟨e,n,ne,nf,d⟩:=I.pin p hp
  have nch:p.1∉ch:=fun z=>(hch p.1 z).2.2.2 p hp rfl
  exact ⟨keep p.1 p.2 ne nf nch e n,free p.1 p.2 nch e n,ne,nf,d⟩
theorem Inv.un {t':Nat} (I:Inv X pins σ H s) (u:Un X.fs [] H H' s.heap h') (hok:HOk X.prog X.w H' h'):Inv X pins σ H' { s with heap:=h',toks:=t' }:=by
 obtain ⟨m,⟨o,es,ep,ho,r⟩,_⟩:=id I.loc
 obtain ⟨sl,hL⟩:=u.any ho I.free (by simp)
 exact I.step (g':=s.gens) (d':=s.drawn) (ch:=[]) (fun _ z=>nomatch z) (fun b o _ hb _ e n=>u.keep b o e n hb (by simp)) (fun b o _ hb _ e n=>u.slot b o e n hb (by simp)) (fun b o _ e n=>u.free b o e n (by simp)) (fun b o _ e=>u.there b o e (by simp)) u.tups u.frzs u.tbls (fun m' hm=>by
  obtain ⟨o',es',ep',ho',r'⟩:=hm
  rw [ho] at ho'; cases ho'
  exact ⟨_,es',ep',hL,r'⟩) hok I.bare
theorem Inv.call {g':Array GenState} {t':Nat} {d':Drawn} {ch:List Addr} (I:Inv X pins σ H s) (u:Un (frs X.stack) ch H H' s.heap h') (hok:HOk X.prog X.w H' h') (hg:AllBare g')
  (hch:∀ b∈ch,(b∈X.ex∨X.s₀.heap.objs.size≤b)∧b≠X.env.locals∧(∀ x c,X.env.cells.lookup x = some c→c≠b)∧∀ p∈X.pn++pins,p.1≠b) :
  Inv X pins σ H' { s with heap:=h',gens:=g',drawn:=d',toks:=t' }:=by
 obtain ⟨m,⟨o,es,ep,ho,r⟩,_⟩:=id I.loc
 obtain ⟨sl,hL⟩:=u.any ho I.free fun z=>(hch _ z).2.1 rfl
 exact I.step (ch:=ch) hch (fun b o hL hb hc e n=>u.keep b o e n (fun z=>(List.mem_cons.mp (I.stkSub b z)).elim hL hb) hc) (fun b o _ _ hc e n=>u.any e n hc) (fun b o hc e n=>u.free b o e n hc) (fun b o hc e=>u.there b o e hc) u.tups u.frzs u.tbls (fun m' hm=>by
  obtain ⟨o',es',ep',ho',r'⟩:=hm
  rw [ho] at ho'; cases ho'
  exact ⟨_,es',ep',hL,r'⟩) hok hg
theorem Inv.turned {t':Nat} {it:Addr} (I:Inv X pins σ H s) (k:∀ b o,b≠it→s.heap.get? b = some o→h'.get? b = some o) (hn:H it = none) (hL:it≠X.env.locals)
  (h1:it∈X.ex∨X.s₀.heap.objs.size≤it) (h2:∀ x c,X.env.cells.lookup x = some c→c≠it) (h3:∀ p∈X.pn++pins,p.1≠it):Inv X pins σ H { s with heap:=h',toks:=t' }:=by
 have nit:∀ b u,H b = some u→b≠it:=fun b u e z=>by rw [z,hn] at e; cases e
 refine I.step (g':=s.gens) (d':=s.drawn) (ch:=[it]) (fun b hb=>?_) (fun b o _ _ hc e _=>k b o (fun z=>hc (by simp [z])) e) (fun b o _ _ hc e _=>⟨o.slots,k b o (fun z=>hc (by simp [z])) e⟩) (fun _ _ _ _ n=>n)
  (fun b o hc e=>⟨o,k b o (fun z=>hc (by simp [z])) e⟩) (fun _ _ e=>e) (fun _ _ _ e=>e) (fun b ps e=>⟨#[],by rw [e]; simp⟩) (fun m hm=>?_) (fun b u e=>?_) I.bare
 ·have e:b = it:=by simpa using hb
  subst e
  exact ⟨h1,hL,h2,h3⟩
 ·obtain ⟨o,es,ep,ho,r⟩:=hm
  exact ⟨o,es,ep,k _ o (Ne.symm hL) ho,r⟩
 ·refine (I.hok b u e).stay (fun c v hc q=>k c v ?_ q) (fun _ q=>q) fun _ _ q=>q
  rcases hc with z | z
  ·rw [z]; exact nit b u e
  ·exact nit c _ z
theorem Inv.tok (I:Inv X pins σ H s) (t:Nat):Inv X pins σ H { s with toks:=t }:=I.un (h':=s.heap) (t':=t) Un.refl I.hok
theorem Inv.kept {t':Nat} (I:Inv X pins σ H s) (k:∀ b u,s.heap.get? b = some u→h'.get? b = some u):Inv X pins σ H { s with heap:=h',toks:=t' }:=I.un (Un.kept k) (I.hok.kept k)
theorem Inv.laid {a:Addr} {o:HO} {t':Nat} (I:Inv X pins σ H s) (k:∀ b u,s.heap.get? b = some u→h'.get? b = some u) (hp:s.heap.objs.size≤a) (new:ObjOk X.prog X.w (upd H a o) h' a o) :
  Inv X pins σ (upd H a o) { s with heap:=h',toks:=t' }:=I.un (Un.laid k hp (I.hok.fresh hp)) (I.hok.laid k hp new)
theorem Inv.write {x e:Addr} {o:HO} {t':Nat} (I:Inv X pins σ H s) (mu:Mut (H x)) (he:e = x∨H e = some (.own x)) (k:∀ b u,b≠e→s.heap.get? b = some u→h'.get? b = some u) (heo:∃ u,h'.get? e = some u)
  (new:ObjOk X.prog X.w (upd H x o) h' x o):Inv X pins σ (upd H x o) { s with heap:=h',toks:=t' }:=I.un (Un.write mu he k heo) (I.hok.write mu he k heo new)
theorem Inv.pins_of {pins':List (Addr×Obj)} (I:Inv X pins σ H s) (h:∀ p∈pins',s.heap.get? p.1 = some p.2∧H p.1 = none∧p.1≠X.env.locals∧p.1∉X.fs∧∀ v,p.2.data≠.cell v):Inv X pins' σ H s :=
 ⟨I.ok,I.os,I.bare,I.base,I.loc,I.cell,I.free,I.freeC,fun p hp=>(List.mem_append.mp hp).elim (fun z=>I.pin p (List.mem_append_left _ z)) (h p),I.hok,I.len⟩
theorem pd {N:List Str} (hN:N.Nodup) {i j:Nat} {x:Str} (a:N[i]? = some x) (b:N[j]? = some x):i = j:=by
 obtain ⟨h1,e1⟩:=List.getElem?_eq_some_iff.mp a
 obtain ⟨h2,e2⟩:=List.getElem?_eq_some_iff.mp b
 exact (List.getElem_inj hN).mp (e1.trans e2.symm)
theorem l4 {M:Model} {A:Around} {E:Value→Shared→Prop} {i:Nat} {x:Str} {v:V} {u:Value} {Q:Unit→Shared→Prop} (I:Inv X pins σ H s) (hN:X.N.Nodup) (hi:X.N[i]? = some x) (hx:Loc X.env.scope x) (r:RelV v u)
  (h:∀ s',Inv X pins (σ.set i (some v)) H s'→(∃ a,Heap.SameBut a s.heap s'.heap∧(a = X.env.locals∨X.env.cells.lookup x = some a))→Q () s') (hf:X.fn x = true∨X.env.scope.names.lookup x = some .local:=by first | exact .inl rfl | exact .inr rfl | assumption):wpAny M A (storeName X.env x u) Q E s:=by
 obtain ⟨m,hn,hl⟩:=id I.loc
 have hcls:(X.env.scope.kind == .class || (X.env.scope.kind == .module && X.env.locals != X.env.globals)) = false:=by rw [I.ok.kind]; rfl
 have hiσ : i < σ.length:=by rw [I.len]; exact (List.getElem?_eq_some_iff.mp hi).1
 have cne:=I.cne
 have tracked:∀ {a:Addr} {h':Heap},(∃ o,s.heap.get? a = some o∧H a = none)→Heap.SameBut a s.heap h'→HOk X.prog X.w H h':=fun {a h'} ha hs b ob e=>by
  obtain ⟨_,_,hfree⟩:=ha
  refine (I.hok b ob e).stay (fun c w' hc q=>(hs.2 c ?_).trans q) (fun _ q=>q) fun _ _ q=>q
  rintro rfl
  rcases hc with rfl | hc
  ·rw [hfree] at e; cases e
  ·rw [hfree] at hc; cases hc
 rcases hx with hk | hk
 ·refine wpAny_storeName_local hk hn (fun h' hn' hs=>?_) hcls
  obtain ⟨oL,_,_,hoL,_⟩:=id hn
  refine h _ ⟨I.ok,I.os,I.bare,⟨fun b o e n hb hx=>?_,fun b o e n hb hx=>?_,I.base.free,fun b o e hx=>?_,I.base.tups,I.base.frzs,I.base.tbls⟩,⟨_,hn',fun j y v' e1 e2 e3=>?_⟩,fun y c e=>?_,I.free,I.freeC,fun p hp=>?_,tracked ⟨oL,hoL,I.free⟩ hs,by simpa using I.len⟩ ⟨_,hs,.inl rfl⟩
  ·exact (hs.2 b (Nat.ne_of_lt (Nat.lt_of_lt_of_le (Heap.lt_size e) I.ok.above))).trans (I.base.keep b o e n hb hx)
  ·obtain ⟨sl,e1⟩:=I.base.slot b o e n hb hx
   exact ⟨sl,(hs.2 b (Nat.ne_of_lt (Nat.lt_of_lt_of_le (Heap.lt_size e) I.ok.above))).trans e1⟩
  ·obtain ⟨o',e1⟩:=I.base.there b o e hx
   exact ⟨o',(hs.2 b (Nat.ne_of_lt (Nat.lt_of_lt_of_le (Heap.lt_size e) I.ok.above))).trans e1⟩
  ·by_cases hj:j = i
   ·subst hj
    rw [hi] at e1; cases e1
    rw [List.getElem?_set_self hiσ] at e2
    cases e2
    exact ⟨u,r,.inl ⟨hk,by simp⟩⟩
   ·rw [List.getElem?_set_ne (Ne.symm hj)] at e2
    obtain ⟨u',r',q⟩:=hl j y v' e1 e2 e3
    refine ⟨u',r',?_⟩
    rcases q with ⟨k,e⟩ | ⟨k,c,e,z⟩
    ·refine .inl ⟨k,?_⟩
     have:y≠x:=fun e=>hj (pd hN e1 (e▸hi))
     simp [this,e]
    ·exact .inr ⟨k,c,e,z.sameBut hs (cne y c e)⟩
  ·obtain ⟨w',z⟩:=I.cell y c e
   exact ⟨w',z.sameBut hs (cne y c e)⟩
  ·obtain ⟨e,n,ne,nf,d⟩:=I.pin p hp
   exact ⟨(hs.2 p.1 ne).trans e,n,ne,nf,d⟩
 ·have hfn:X.fn x = true:=by
   rcases hf with z | z
   ·exact z
   ·rw [z] at hk; cases hk
  obtain ⟨c,hc⟩:=I.ok.has x (.inl hk)
  obtain ⟨w',z⟩:=I.cell x c hc
  refine wpAny_storeName_cell I.ok.kind hk hc z (fun h' hc' hs=>?_)
  obtain ⟨oc,hoc,hocd⟩:=id z
  refine h { s with heap:=h' } ⟨I.ok,I.os,I.bare,⟨fun b o e n hb hx=>?_,fun b o e n hb hx=>?_,I.base.free,fun b o e hx=>?_,I.base.tups,I.base.frzs,I.base.tbls⟩,⟨m,hn.sameBut hs (Ne.symm (cne x c hc)),fun j y v' e1 e2 e3=>?_⟩,fun y c' e=>?_,I.free,I.freeC,fun p hp=>?_,tracked ⟨oc,hoc,I.freeC x c hc⟩ hs,by simpa using I.len⟩ ⟨c,hs,.inr hc⟩
  ·exact (hs.2 b (Nat.ne_of_lt (Nat.lt_of_lt_of_le (Heap.lt_size e) (I.ok.cab x c hfn hc)))).trans (I.base.keep b o e n hb hx)
  ·obtain ⟨sl,e1⟩:=I.base.slot b o e n hb hx
   exact ⟨sl,(hs.2 b (Nat.ne_of_lt (Nat.lt_of_lt_of_le (Heap.lt_size e) (I.ok.cab x c hfn hc)))).trans e1⟩
  ·obtain ⟨o',e1⟩:=I.base.there b o e hx
   exact ⟨o',(hs.2 b (Nat.ne_of_lt (Nat.lt_of_lt_of_le (Heap.lt_size e) (I.ok.cab x c hfn hc)))).trans e1⟩
  ·by_cases hj:j = i
   ·subst hj
    rw [hi] at e1; cases e1
    rw [List.getElem?_set_self hiσ] at e2
    cases e2
    exact ⟨u,r,.inr ⟨.inl hk,c,hc,hc'⟩⟩
   ·rw [List.getElem?_set_ne (Ne.symm hj)] at e2
    obtain ⟨u',r',q⟩:=hl j y v' e1 e2 e3
    refine ⟨u',r',?_⟩
    rcases q with q | ⟨k,c',e,z'⟩
    ·exact .inl q
    ·refine .inr ⟨k,c',e,z'.sameBut hs ?_⟩
     rintro rfl
     exact hj (pd hN e1 (I.ok.inj _ _ _ e hc▸hi))
  ·by_cases hcc:c' = c
   ·subst hcc; exact ⟨_,hc'⟩
   ·obtain ⟨w2,z2⟩:=I.cell y c' e
    exact ⟨w2,z2.sameBut hs hcc⟩
  ·obtain ⟨e,n,ne,nf,d⟩:=I.pin p hp
   refine ⟨(hs.2 p.1 ?_).trans e,n,ne,nf,d⟩
   intro q
   rw [q,hoc] at e
   have q':oc = p.2:=Option.some.inj e
   exact d w' (by rw [←q']; exact hocd)
theorem ib {M:Model} {A:Around} {E:Value→Shared→Prop} {i:Nat} {x:Str} {v:V} {u:Value} {Q:Unit→Shared→Prop} (I:Inv X pins σ H s) (hN:X.N.Nodup) (hi:X.N[i]? = some x) (hx:Loc X.env.scope x) (r:RelV v u)
  (h:∀ s',Inv X pins (σ.set i (some v)) H s'→Q () s') (hf:X.fn x = true∨X.env.scope.names.lookup x = some .local:=by first | exact .inl rfl | exact .inr rfl | assumption):wpAny M A (storeName X.env x u) Q E s :=
 l4 I hN hi hx r (fun s' I' _=>h s' I') hf
theorem Inv.call' {s':Shared} {ch:List Addr} (I:Inv X pins σ H s) (ho:s'.os = s.os) (u:Un (frs X.stack) ch H H' s.heap s'.heap) (hok:HOk X.prog X.w H' s'.heap) (hg:AllBare s'.gens)
  (hch:∀ b∈ch,(b∈X.ex∨X.s₀.heap.objs.size≤b)∧b≠X.env.locals∧(∀ x c,X.env.cells.lookup x = some c→c≠b)∧∀ p∈X.pn++pins,p.1≠b):Inv X pins σ H' s':=by
 obtain ⟨h',g',d',t',o'⟩:=s'
 have e:o' = s.os:=ho
 subst e
 exact I.call (g':=g') (t':=t') (d':=d') u hok hg hch
end
abbrev XK:=Value→Option Addr→Hp→Prop
abbrev St:=List (Option V)
abbrev VK:=V→Hp→Prop
abbrev TE:=St→Hp→VK→Prop
abbrev TT:=St→Hp→(Bool→Hp→Prop)→Prop
abbrev TA:=St→Hp→(List V→Hp→Prop)→Prop
structure Ends where
 nx:St→Hp→Prop
 rt:VK
 bk:St→Hp→Prop:=fun _ _=>False
 ct:St→Hp→Prop:=fun _ _=>False
abbrev TS:=Ends→St→Hp→Prop
def EP (X:Cx) (pins:List (Addr×Obj)) (σ : St) (Q:VK) (u:Value) (s':Shared):Prop:=∃ v H',Inv X pins σ H' s'∧RelV v u∧Q v H'
def TP (X:Cx) (pins:List (Addr×Obj)) (σ : St) (Q:Bool→Hp→Prop) (b:Bool) (s':Shared):Prop:=∃ H',Inv X pins σ H' s'∧Q b H'
def AP (X:Cx) (pins:List (Addr×Obj)) (σ : St) (Q:List V→Hp→Prop) (us:List Value) (s':Shared):Prop:=∃ vs H',Inv X pins σ H' s'∧Vals vs us∧Q vs H'
def SP (X:Cx) (pins:List (Addr×Obj)) (D:Ends) (f:Flow) (s':Shared):Prop :=
 match f with
 | .next=>∃ σ' H',Inv X pins σ' H' s'∧D.nx σ' H'
 | .brk=>∃ σ' H',Inv X pins σ' H' s'∧D.bk σ' H'
 | .cont=>∃ σ' H',Inv X pins σ' H' s'∧D.ct σ' H'
 | .ret u=>∃ v σ' H',Inv X pins σ' H' s'∧RelV v u∧D.rt v H'
def PE (X:Cx) (e:Expr) (t:TE):Prop :=
 ∀ (pins:List (Addr×Obj)) (s:Shared) (σ : St) (H:Hp) (Q:VK),Inv X pins σ H s→t σ H Q→wpAny (model X.prog X.w) X.A (eval e X.env) (EP X pins σ Q) X.xe s
def PT (X:Cx) (e:Expr) (t:TT):Prop :=
 ∀ (pins:List (Addr×Obj)) (s:Shared) (σ : St) (H:Hp) (Q:Bool→Hp→Prop),Inv X pins σ H s→t σ H Q→wpAny (model X.prog X.w) X.A (isTrue e X.env (eval e X.env)) (TP X pins σ Q) X.xe s
def PW (X:Cx) (e:Expr) (t:TT):Prop :=
 ∀ (whole:Sem Value) (pins:List (Addr×Obj)) (s:Shared) (σ : St) (H:Hp) (Q:Bool→Hp→Prop),Inv X pins σ H s→t σ H Q→wpAny (model X.prog X.w) X.A (isTrue e X.env whole) (TP X pins σ Q) X.xe s
theorem PW.pt {X:Cx} {e:Expr} {t:TT} (h:PW X e t):PT X e t:=h _
def PA (X:Cx) (es:List Expr) (t:TA):Prop :=
 ∀ (pos:Pos) (pins:List (Addr×Obj)) (s:Shared) (σ : St) (H:Hp) (Q:List V→Hp→Prop),Inv X pins σ H s→t σ H Q→wpAny (model X.prog X.w) X.A (spliced (backTo pos (starEach es X.env))) (AP X pins σ Q) X.xe s
def PS (X:Cx) (st:Stmt) (t:TS):Prop :=
 ∀ (pins:List (Addr×Obj)) (s:Shared) (σ : St) (H:Hp) (D:Ends),Inv X pins σ H s→t D σ H→wpAny (model X.prog X.w) X.A (exec st X.env) (SP X pins D) X.xe s
def PSs (X:Cx) (st:List Stmt) (t:TS):Prop :=
 ∀ (pins:List (Addr×Obj)) (s:Shared) (σ : St) (H:Hp) (D:Ends),Inv X pins σ H s→t D σ H→wpAny (model X.prog X.w) X.A (execs st X.env) (SP X pins D) X.xe s
theorem thn {α : Type} {t:Sem α} {Q Q' : α→Shared→Prop} {M:Model} {A:Around} {E:Value→Shared→Prop} {s:Shared} (h:wpAny M A t Q E s) (hQ:∀ a s,Q a s→Q' a s):wpAny M A t Q' E s:=wpAny_mono h hQ fun _ _ x=>x
section
variable {X:Cx}
def tVar (i:Nat):TE:=fun σ H Q=>∃ v,σ[i]? = some (some v)∧Q v H
def tC (v:V):TE:=fun _ H Q=>Q v H
theorem yT {i:Nat} {x:Str} {pos:Pos} (hN:X.N[i]? = some x) (hv:Vis X.env.scope x) (hd:(x == ("__debug__" : Str)) = false:=by decide) (hcd:(x == ("__classdict__" : Str)) = false:=by decide):PE X (.Name x pos) (tVar i):=by
 intro pins s σ H Q I h
 obtain ⟨v,e,h⟩:=h
 obtain ⟨m,hn,hl⟩:=I.loc
 obtain ⟨u,r,l⟩:=hl i x v hN e hv
 have fin:EP X pins σ Q u s:=⟨v,H,I,r,h⟩
 rcases l with ⟨hk,hm⟩ | ⟨hk,c,hc,hcell⟩
 ·exact wpAny_Name (wpAny_loadName_local I.ok.kind hk hn hm fin) hd
 ·rcases hk with hk | hk
  ·exact wpAny_Name (wpAny_loadName_cell I.ok.kind hk hc hcell fin) hd
  ·exact wpAny_Name (wpAny_loadName_free I.ok.kind hk hc hcell fin hcd) hd
theorem IG {i j pos}:PE X (.Constant (.int i) j pos) (tC (.int i)):=fun _ _ _ H _ I h=>wpAny_Constant_int ⟨.int i,H,I.tok _,⟨_,rfl⟩,h⟩
theorem Je {b j pos}:PE X (.Constant (.bool b) j pos) (tC (.bl b)):=fun _ _ _ H _ I h=>Constant_bool ⟨.bl b,H,I,rfl,h⟩
theorem GQ {j pos}:PE X (.Constant .none j pos) (tC .non):=fun _ _ _ H _ I h=>Constant_none ⟨.non,H,I,rfl,h⟩
theorem DV {x j pos}:PE X (.Constant (.str x) j pos) (tC (.str x)):=fun _ _ _ H _ I h=>Calls.Constant_str ⟨.str x,H,I.tok _,⟨_,rfl⟩,h⟩
def Gl (X:Cx) (x:Str):Prop:=X.env.kindOf x = some .globalImplicit
theorem ng {E:Value→Shared→Prop} {pins:List (Addr×Obj)} {s:Shared} {σ : St} {H:Hp} {x:Str} {u:Value} {pos:Pos} {Q:Value→Shared→Prop} (I:Inv X pins σ H s) (hg:Gl X x) (hm:X.mg x = some u) (h:Q u s)
  (hd:(x == ("__debug__" : Str)) = false:=by decide):wpAny (model X.prog X.w) X.A (eval (.Name x pos) X.env) Q E s :=
 Calls.Name_function_global I.ok.kind hg (Calls.loadGlobal_global (by rw [I.ok.glob]; exact I.mod.glob.keeps I.bk) hm h) hd
theorem gH {E:Value→Shared→Prop} {pins:List (Addr×Obj)} {s:Shared} {σ : St} {H:Hp} {x:Str} {u:Value} {pos:Pos} {Q:Value→Shared→Prop} (I:Inv X pins σ H s) (hg:Gl X x) (hm:X.mg x = none) (hv:bootBuiltins x = some u) (h:Q u s)
  (hn:x ≠ "__name__" := by decide) (hd:(x == ("__debug__" : Str)) = false:=by decide):wpAny (model X.prog X.w) X.A (eval (.Name x pos) X.env) Q E s:=by
 obtain ⟨mb,h1,h2⟩:=I.mod.blt
 exact Calls.Name_function_global I.ok.kind hg (Calls.loadGlobal_builtin (by rw [I.ok.glob]; exact I.mod.glob.keeps I.bk) hm (by rw [I.ok.blt]; exact h1.keeps I.bk) ((h2 x hn).trans hv) h) hd
theorem zN {x:Str} {v:V} {u:Value} {pos:Pos} (hg:Gl X x) (hm:X.mg x = some u) (r:RelV v u) (hd:(x == ("__debug__" : Str)) = false:=by decide):PE X (.Name x pos) (tC v) :=
 fun _ _ _ H _ I h=>ng I hg hm ⟨v,H,I,r,h⟩ hd
theorem Bm {x:Str} {v:V} {u:Value} {pos:Pos} (hg:Gl X x) (hm:X.mg x = none) (hv:bootBuiltins x = some u) (r:RelV v u) (hn:x ≠ "__name__" := by decide) (hd:(x == ("__debug__" : Str)) = false:=by decide):PE X (.Name x pos) (tC v) :=
 fun _ _ _ H _ I h=>gH I hg hm hv ⟨v,H,I,r,h⟩ hn hd
variable {a b:Expr} {ta tb:TE} {pos:Pos}
def tB (t:TE):TT:=fun σ H Q=>t σ H fun x H1=>∃ c,x = .bl c∧Q c H1
theorem Dh {e:Expr} {t:TE} (h:PE X e t) (he:∀ whole,isTrue e X.env whole = (do let v ← whole; standAt e.pos; holding [v] (truthy v)):=by intro _; rfl):PT X e (tB t):=by
 intro pins s σ H Q I hw
 refine isTrue_plain (thn (h pins s σ H _ I hw) fun v s1 ⟨x,H1,I1,r1,q1⟩=>?_) (he _)
 obtain ⟨d,rfl,q⟩:=q1
 cases r1
 exact wpAny_truthy_bool ⟨H1,I1,q⟩
variable {tA tB':TT} {rest:List Expr}
def tAnd (t u:TT):TT:=fun σ H Q=>t σ H fun c H1=>if c = true then u σ H1 Q else Q false H1
def tOr (t u:TT):TT:=fun σ H Q=>t σ H fun c H1=>if c = true then Q true H1 else u σ H1 Q
def tNot (t:TT):TT:=fun σ H Q=>t σ H fun c H1=>Q (!c) H1
theorem zl (ha:PT X a tA):PW X (.BoolOp .And [a] pos) tA:=by
 intro wh pins s σ H Q I h
 refine isTrue_and (thn (ha pins s σ H Q I h) fun c s1 e=>?_)
 cases c with
 | true=>exact isTrue_and_nil e
 | false=>exact e
theorem E9 (ha:PT X a tA):PW X (.BoolOp .Or [a] pos) tA:=by
 intro wh pins s σ H Q I h
 refine isTrue_or (thn (ha pins s σ H Q I h) fun c s1 e=>?_)
 cases c with
 | false=>exact isTrue_or_nil e
 | true=>exact e
theorem GI (ha:PT X a tA) (hb:PW X (.BoolOp .And (b :: rest) pos) tB'):PW X (.BoolOp .And (a :: b :: rest) pos) (tAnd tA tB'):=by
 intro wh pins s σ H Q I h
 refine isTrue_and (thn (ha pins s σ H _ I h) fun c s1 ⟨H1,I1,q1⟩=>?_)
 cases c with
 | true=>exact hb wh pins s1 σ H1 Q I1 q1
 | false=>exact ⟨H1,I1,q1⟩
theorem IZ (ha:PT X a tA) (hb:PW X (.BoolOp .Or (b :: rest) pos) tB'):PW X (.BoolOp .Or (a :: b :: rest) pos) (tOr tA tB'):=by
 intro wh pins s σ H Q I h
 refine isTrue_or (thn (ha pins s σ H _ I h) fun c s1 ⟨H1,I1,q1⟩=>?_)
 cases c with
 | true=>exact ⟨H1,I1,q1⟩
 | false=>exact hb wh pins s1 σ H1 Q I1 q1
theorem DQ (ha:PT X a tA):PT X (.UnaryOp .Not a pos) (tNot tA):=by
 intro pins s σ H Q I h
 exact isTrue_not (ha pins s σ H (fun c H1=>Q (!c) H1) I h)
def Jv (ta tb:TE):TE:=fun σ H Q=>ta σ H fun x H1=>∃ c,x = .bl c∧if c = true then tb σ H1 Q else Q (.bl false) H1
def J9 (ta:TE):TE:=fun σ H Q=>ta σ H fun x H1=>∃ c,x = .bl c∧Q (.bl (!c)) H1
theorem Da {op} {t:TE} (h:PE X a t):PE X (.BoolOp op [a] pos) t:=fun pins s σ H Q I hw=>BoolOp_one (h pins s σ H Q I hw)
theorem DN (ha:PE X a ta) (hb:PE X (.BoolOp .And (b :: rest) pos) tb):PE X (.BoolOp .And (a :: b :: rest) pos) (Jv ta tb):=by
 intro pins s σ H Q I h
 refine BoolOp_and (thn (ha pins s σ H _ I h) fun v s1 ⟨x,H1,I1,r1,q1⟩=>?_)
 obtain ⟨c,rfl,q1⟩:=q1
 cases r1
 refine wpAny_truthy_bool ?_
 cases c with
 | true=>exact hb pins s1 σ H1 Q I1 q1
 | false=>exact ⟨.bl false,H1,I1,rfl,q1⟩
theorem DU (ha:PE X a ta):PE X (.UnaryOp .Not a pos) (J9 ta):=by
 intro pins s σ H Q I h
 refine UnaryOp_ (thn (ha pins s σ H _ I h) fun v s1 ⟨x,H1,I1,r1,q1⟩=>?_)
 obtain ⟨c,rfl,q1⟩:=q1
 cases r1
 exact not_of (wpAny_truthy_bool ⟨.bl (!c),H1,I1,rfl,q1⟩)
def tIf (t:TT) (ta tb:TE):TE:=fun σ H Q=>t σ H fun c H1=>if c = true then ta σ H1 Q else tb σ H1 Q
theorem xJ {c:Expr} (hc:PT X c tA) (ha:PE X a ta) (hb:PE X b tb):PE X (.IfExp c a b pos) (tIf tA ta tb):=by
 intro pins s σ H Q I h
 refine wpAny_IfExp (thn (hc pins s σ H _ I h) fun d s1 ⟨H1,I1,q1⟩=>?_)
 cases d with
 | true=>exact ha pins s1 σ H1 Q I1 q1
 | false=>exact hb pins s1 σ H1 Q I1 q1
end
def SqL (K:PySem.W.Frag) (H:Hp) (a:Addr) (xs:List V):Prop :=
 Rd H a (.lst xs) ∨
  ∃ (o:Obj) (its:Array Value) (n:Nat),K.lookup a = some o∧o.cls = .type "list" ∧ o.dict = none∧o.data = .seq its n∧its.size≤sizeLine∧Vals xs its.toList
def SqT (K:PySem.W.Frag) (H:Hp) (a:Addr) (xs:List V):Prop :=
 Rd H a (.tup xs) ∨
  ∃ (o:Obj) (its:Array Value) (n:Nat),K.lookup a = some o∧o.cls = .type "tuple" ∧ o.dict = none∧o.data = .seq its n∧its.size≤sizeLine∧Vals xs its.toList
def absV:Value→Option V
 | .none=>some .non
 | .bool b=>some (.bl b)
 | .int i _=>some (.int i)
 | .str x _=>some (.str x)
 | .bytes b _=>some (.byt b)
 | .float b _=>some (.flt b)
 | .ref a=>some (.ref a)
 | .type n=>some (.ty n)
 | _=>none
theorem RelV.abs {x:V} {u:Value} (r:RelV x u):absV u = some x:=by
 cases x with
 | non=>cases r; rfl
 | bl _=>cases r; rfl
 | int _=>obtain ⟨t,rfl⟩:=r; rfl
 | str _=>obtain ⟨t,rfl⟩:=r; rfl
 | byt _=>obtain ⟨t,rfl⟩:=r; rfl
 | flt _=>obtain ⟨t,rfl⟩:=r; rfl
 | ref _=>cases r; rfl
 | ty _=>cases r; rfl
theorem RelV.inj {x y:V} {u:Value} (r:RelV x u) (q:RelV y u):x = y:=Option.some.inj (r.abs.symm.trans q.abs)
theorem Vals.inj:∀ {xs ys:List V} {us:List Value},Vals xs us→Vals ys us→xs = ys
 | _,_,_,.nil,.nil=>rfl
 | _,_,_,.cons r t,.cons r' t'=>by rw [r.inj r',Vals.inj t t']
section
variable {X:Cx} {pins:List (Addr×Obj)} {σ : St} {H:Hp} {s:Shared} {a:Addr} {xs ys:List V}
theorem SqL.of {K:PySem.W.Frag} (h:H a = some (.lst xs)):SqL K H a xs:=.inl (.inl h)
theorem SqT.of {K:PySem.W.Frag} (h:H a = some (.tup xs)):SqT K H a xs:=.inl (.inl h)
theorem Inv.list (I:Inv X pins σ H s) (h:SqL X.K H a xs):∃ its:List Value,Vals xs its∧PlainL s.heap a its.toArray∧xs.length≤sizeLine:=by
 rcases h with h | ⟨o,its,n,hk,hc,hd,hs,hz,r⟩
 ·obtain ⟨z,its,n,r,e⟩:=h.ok I.hok
  exact ⟨its,r,⟨_,n,e,rfl,rfl,rfl⟩,z⟩
 ·refine ⟨its.toList,r,⟨o,n,I.kIn a o hk,hc,hd,by simpa using hs⟩,?_⟩
  have e:=r.length
  simp only [Array.length_toList] at e
  omega
theorem Inv.tuple (I:Inv X pins σ H s) (h:SqT X.K H a xs):∃ its:List Value,Vals xs its∧IsTup s.heap a its.toArray∧xs.length≤sizeLine:=by
 rcases h with h | ⟨o,its,n,hk,hc,hd,hs,hz,r⟩
 ·obtain ⟨z,its,r,p⟩:=h.ok I.hok
  exact ⟨its,r,p.tup,z⟩
 ·refine ⟨its.toList,r,⟨o,I.kIn a o hk,hc,n,by simpa using hs⟩,?_⟩
  have e:=r.length
  simp only [Array.length_toList] at e
  omega
theorem Inv.tupleP (I:Inv X pins σ H s) (h:SqT X.K H a xs):∃ its:List Value,Vals xs its∧PlainT s.heap a its.toArray∧xs.length≤sizeLine:=by
 rcases h with h | ⟨o,its,n,hk,hc,hd,hs,hz,r⟩
 ·obtain ⟨z,its,r,p⟩:=h.ok I.hok
  exact ⟨its,r,p,z⟩
 ·refine ⟨its.toList,r,⟨o,I.kIn a o hk,hc,hd,n,by simpa using hs⟩,?_⟩
  have e:=r.length
  simp only [Array.length_toList] at e
  omega
theorem Inv.list_inj (I:Inv X pins σ H s) (h:SqL X.K H a xs) (h':SqL X.K H a ys):xs = ys:=by
 obtain ⟨its,r,⟨o,n,e,_,_,d⟩,_⟩:=I.list h
 obtain ⟨its',r',⟨o',n',e',_,_,d'⟩,_⟩:=I.list h'
 rw [e] at e'; cases e'
 rw [d] at d'
 injection d' with d1 _
 have:its = its':=by simpa using congrArg Array.toList d1
 subst this
 exact r.inj r'
theorem Inv.tuple_inj (I:Inv X pins σ H s) (h:SqT X.K H a xs) (h':SqT X.K H a ys):xs = ys:=by
 obtain ⟨its,r,⟨o,e,_,n,d⟩,_⟩:=I.tuple h
 obtain ⟨its',r',⟨o',e',_,n',d'⟩,_⟩:=I.tuple h'
 rw [e] at e'; cases e'
 rw [d] at d'
 injection d' with d1 _
 have:its = its':=by simpa using congrArg Array.toList d1
 subst this
 exact r.inj r'
end
abbrev Cx.wish (X:Cx) (E:Value→Shared→Prop):Cx:={ X with xe:=E }
abbrev Cx.nox (X:Cx):Cx:=X.wish fun _ _=>False
theorem Cx.Ok.wish {X:Cx} (ok:X.Ok) (E:Value→Shared→Prop):(X.wish E).Ok :=
 ⟨ok.mod,ok.kind,ok.glob,ok.blt,ok.above,ok.inj,ok.has,ok.cab,ok.hd,ok.frames,ok.stk,ok.exf,ok.bs,ok.bsz,ok.noex,ok.exfs,ok.funs,ok.frf⟩
theorem Cx.Ok.unwish {X:Cx} {E:Value→Shared→Prop} (ok:(X.wish E).Ok):X.Ok :=
 ⟨ok.mod,ok.kind,ok.glob,ok.blt,ok.above,ok.inj,ok.has,ok.cab,ok.hd,ok.frames,ok.stk,ok.exf,ok.bs,ok.bsz,ok.noex,ok.exfs,ok.funs,ok.frf⟩
section
variable {X:Cx} {pins:List (Addr×Obj)} {σ : St} {H:Hp} {s:Shared} {E:Value→Shared→Prop}
theorem Inv.wish (I:Inv X pins σ H s) (E:Value→Shared→Prop):Inv (X.wish E) pins σ H s:=⟨I.ok.wish E,I.os,I.bare,I.base,I.loc,I.cell,I.free,I.freeC,I.pin,I.hok,I.len⟩
theorem Inv.unwish (I:Inv (X.wish E) pins σ H s):Inv X pins σ H s:=⟨I.ok.unwish,I.os,I.bare,I.base,I.loc,I.cell,I.free,I.freeC,I.pin,I.hok,I.len⟩
theorem SP.unwish {D:Ends} {f:Flow} {s':Shared} (h:SP (X.wish E) pins D f s'):SP X pins D f s':=by
 cases f with
 | next=>obtain ⟨σ',H',I,q⟩:=h; exact ⟨σ',H',I.unwish,q⟩
 | brk=>obtain ⟨σ',H',I,q⟩:=h; exact ⟨σ',H',I.unwish,q⟩
 | cont=>obtain ⟨σ',H',I,q⟩:=h; exact ⟨σ',H',I.unwish,q⟩
 | ret u=>obtain ⟨v,σ',H',I,r,q⟩:=h; exact ⟨v,σ',H',I.unwish,r,q⟩
theorem PSs.nox {st:List Stmt} {t:TS} (h:PSs X.nox st t):PSs X st t:=fun pins s σ H D I hw =>
 wpAny_mono (h pins s σ H D (I.wish _) hw) (fun _ _ q=>q.unwish) fun _ _ z=>False.elim z
end
section
variable {X:Cx} {st:Stmt} {rest:List Stmt} {t u:TS} {e:Expr} {te:TE} {pos:Pos}
def JR:TS:=fun D σ H=>D.nx σ H
def tSeq (t u:TS):TS:=fun D σ H=>t { D with nx:=u D } σ H
theorem Ae:PSs X [] JR:=fun _ _ σ H _ I h=>wpAny_execs_nil ⟨σ,H,I,h⟩
theorem pi (h1:PS X st t) (h2:PSs X rest u):PSs X (st :: rest) (tSeq t u):=by
 intro pins s σ H D I h
 refine wpAny_execs_cons (thn (h1 pins s σ H { D with nx:=u D } I h) fun f s1 q=>?_)
 cases f with
 | next =>
  obtain ⟨σ',H',I',q⟩:=q
  exact h2 pins s1 σ' H' D I' q
 | ret v=>exact q
 | brk=>exact q
 | cont=>exact q
theorem Bo (h1:PS X st t):PSs X [st] t:=by
 intro pins s σ H D I h
 refine wpAny_execs_cons (thn (h1 pins s σ H D I h) fun f s1 q=>?_)
 cases f with
 | next=>exact wpAny_execs_nil q
 | ret v=>exact q
 | brk=>exact q
 | cont=>exact q
theorem Inv.quiet {pins:List (Addr×Obj)} {σ : St} {H:Hp} {s:Shared} (I:Inv X pins σ H s):interactive X.env = false:=by simp [interactive,I.ok.kind]
def Jz (te:TE):TS:=fun D σ H=>te σ H fun _ H1=>D.nx σ H1
theorem zJ (he:PE X e te) (hs:swapsWith e none pos.line X.env = pure false:=by rfl):PS X (.Expr e pos) (Jz te):=by
 intro pins s σ H D I h
 exact wpAny_Expr_any (thn (he pins s σ H _ I h) fun v s1 ⟨x,H1,I1,r1,q1⟩=>⟨σ,H1,I1,q1⟩) I.quiet hs
def tRet (te:TE):TS:=fun D σ H=>te σ H D.rt
theorem IJ (he:PE X e te):PS X (.Return (some e) pos) (tRet te):=by
 intro pins s σ H D I h
 exact wpAny_Return_some (thn (he pins s σ H _ I h) fun v s1 ⟨x,H1,I1,r1,q1⟩=>⟨x,σ,H1,I1,r1,q1⟩)
def tIfS (c:TT) (t u:TS):TS:=fun D σ H=>c σ H fun b H1=>if b = true then t D σ H1 else u D σ H1
theorem I9 {c:Expr} {a b:List Stmt} {tc:TT} (hc:PT X c tc) (ha:PSs X a t) (hb:PSs X b u):PS X (.If c a b pos) (tIfS tc t u):=by
 intro pins s σ H D I h
 refine wpAny_If (thn (hc pins s σ H _ I h) fun d s1 ⟨H1,I1,q1⟩=>?_)
 cases d with
 | true=>exact ha pins s1 σ H1 D I1 q1
 | false=>exact hb pins s1 σ H1 D I1 q1
def D8:TS:=fun _ _ _=>False
theorem vB:PS X st D8:=fun _ _ _ _ _ _ h=>h.elim
end
abbrev TG:=V→St→Hp→(St→Hp→Prop)→Prop
abbrev TGs:=List V→St→Hp→(St→Hp→Prop)→Prop
def PG (X:Cx) (target:Expr) (t:TG):Prop :=
 ∀ (pins:List (Addr×Obj)) (s:Shared) (σ : St) (H:Hp) (v:V) (u:Value) (Q:St→Hp→Prop),Inv X pins σ H s→RelV v u→t v σ H Q →
  wpAny (model X.prog X.w) X.A (assign target X.env u) (fun _ s'=>∃ σ' H',Inv X pins σ' H' s'∧Q σ' H') X.xe s
def PGs (X:Cx) (ts:List Expr) (t:TGs):Prop :=
 ∀ (pins:List (Addr×Obj)) (s:Shared) (σ : St) (H:Hp) (vs:List V) (us:List Value) (Q:St→Hp→Prop),Inv X pins σ H s→Vals vs us→t vs σ H Q →
  wpAny (model X.prog X.w) X.A (assignInOrder ((assignEach ts X.env).map (·.2)) us) (fun _ s'=>∃ σ' H',Inv X pins σ' H' s'∧Q σ' H') X.xe s
abbrev TSet:=V→V→V→Hp→(Hp→Prop)→Prop
def PSet (X:Cx) (t:TSet):Prop :=
 ∀ (pins:List (Addr×Obj)) (s:Shared) (σ : St) (H:Hp) (o i v:V) (ov iv u:Value) (Q:Hp→Prop),Inv X pins σ H s→RelV o ov→RelV i iv→RelV v u→t o i v H Q →
  wpAny (model X.prog X.w) X.A (setItem ov iv u) (fun _ s'=>∃ H',Inv X pins σ H' s'∧Q H') X.xe s
section
variable {X:Cx} {pos:Pos}
def BX (i:Nat):TG:=fun v σ H Q=>Q (σ.set i (some v)) H
theorem BZ {i:Nat} {x:Str} (hN:X.N.Nodup) (hi:X.N[i]? = some x) (hx:Loc X.env.scope x) (hf:X.fn x = true∨X.env.scope.names.lookup x = some .local:=by first | exact .inl rfl | exact .inr rfl | assumption):PG X (.Name x pos) (BX i):=by
 intro pins s σ H v u Q I r h
 exact wpAny_assign_Name (ib I hN hi hx r (fun s' I'=>⟨_,H,I',h⟩) hf)
def gNil:TGs:=fun vs σ H Q=>vs = []∧Q σ H
def KB (t:TG) (u:TGs):TGs:=fun vs σ H Q=>∃ v r,vs = v :: r∧t v σ H fun σ' H'=>u r σ' H' Q
theorem CA:PGs X [] gNil:=by
 intro pins s σ H vs us Q I r h
 obtain ⟨e,h⟩:=h
 subst e
 cases r
 exact assignInOrder_nil ⟨σ,H,I,h⟩
theorem wx {e:Expr} {es:List Expr} {t:TG} {u:TGs} (h1:PG X e t) (h2:PGs X es u)
  (hs:(assignEach (e :: es) X.env).map (·.2) = assign e X.env :: (assignEach es X.env).map (·.2):=by rfl):PGs X (e :: es) (KB t u):=by
 intro pins s σ H vs us Q I r h
 obtain ⟨v,vr,e1,h⟩:=h
 subst e1
 cases r with
 | cons r rr =>
  rw [hs]
  refine assignInOrder_cons (thn (h1 pins s σ H _ _ _ I r h) fun _ s1 ⟨σ1,H1,I1,q1⟩=>?_)
  exact h2 pins s1 σ1 H1 _ _ Q I1 rr q1
def gTup (K:PySem.W.Frag) (n:Nat) (t:TGs):TG:=fun v σ H Q=>∃ a xs,v = .ref a∧SqT K H a xs∧xs.length = n∧t xs σ H Q
theorem D3 {es:List Expr} {k:Nat} {t:TGs} {n:Nat} (hc:X.calm = true) (h:PGs X es t)
  (hn:(assignEach es X.env).length = n:=by rfl) (hst:(assignEach es X.env).findIdx? (·.1) = none:=by rfl):PG X (.Tuple es k pos) (gTup X.K n t):=by
 intro pins s σ H v u Q I r hw
 obtain ⟨a,xs,e1,hq,hl,hw⟩:=hw
 subst e1
 cases r
 obtain ⟨its,rv,ht,hz⟩:=I.tuple hq
 refine assign_Tuple_tuple (I.ok.hd hc) ht (by simp [hn,←hl,rv.length]) hst fun h' hx=>?_
 have I1:Inv X pins σ H { s with heap:=h' }:=I.kept (t':=s.toks) fun b o e=>hx b o (Nat.ne_of_lt (Heap.lt_size e)) e
 exact h pins _ σ H xs _ Q I1 (by simpa using rv) hw
def gSub (to ti:TE) (t:TSet):TG:=fun v σ H Q=>to σ H fun o H1=>ti σ H1 fun i H2=>t o i v H2 fun H3=>Q σ H3
theorem FE {o i:Expr} {to ti:TE} {t:TSet} (ho:PE X o to) (hi:PE X i ti) (hs:PSet X t)
  (ha:∀ v,assign (.Subscript o i pos) X.env v = (do
   let ov ← holding [v] (eval o X.env)
   let iv ← holding [v,ov] (eval i X.env)
   standAt pos
   holding [v,ov,iv] (setItem ov iv v)
   release [v,ov,iv] []):=by intro _; rfl):PG X (.Subscript o i pos) (gSub to ti t):=by
 intro pins s σ H v u Q I r h
 rw [ha]
 refine wpAny_bind (wpAny_holding (thn (ho pins s σ H _ I h) fun ov s1 ⟨x,H1,I1,r1,q1⟩=>?_))
 refine wpAny_bind (wpAny_holding (thn (hi pins s1 σ H1 _ I1 q1) fun iv s2 ⟨y,H2,I2,r2,q2⟩=>?_))
 refine wpAny_bind (wpAny_standAt (wpAny_bind (wpAny_holding (thn (hs pins s2 σ H2 x y v ov iv u _ I2 r1 r2 r q2) fun _ s3 ⟨H3,I3,q3⟩=>?_))))
 exact wpAny_release ⟨σ,H3,I3,q3⟩
def tAsg (te:TE) (g:TG):TS:=fun D σ H=>te σ H fun x H1=>g x σ H1 D.nx
theorem yW {tg e:Expr} {te:TE} {g:TG} (he:PE X e te) (hg:PG X tg g) (hs:swapsWithSole [tg] e pos.line X.env = pure false:=by rfl) (hw:swappedStores [tg] e X.env = pure none:=by rfl)
  (h1:(assignEach [tg] X.env).map (·.2) = [assign tg X.env]:=by rfl):PS X (.Assign [tg] e pos) (tAsg te g):=by
 intro pins s σ H D I h
 refine wpAny_Assign_stores (thn (he pins s σ H _ I h) fun v s1 ⟨x,H1,I1,r1,q1⟩=>?_) hs hw
 rw [h1]
 exact thn (hg pins s1 σ H1 x v _ I1 r1 q1) fun _ s2 q=>q
theorem DB {i:Nat} {x:Str} {e:Expr} {te:TE} {pos':Pos} (hN:X.N.Nodup) (hi:X.N[i]? = some x) (hx:Loc X.env.scope x) (he:PE X e te) (hs:swapsWith e (some (.Name x pos')) pos.line X.env = pure false:=by rfl) (hf:X.fn x = true∨X.env.scope.names.lookup x = some .local:=by first | exact .inl rfl | exact .inr rfl | assumption) :
  PS X (.Assign [.Name x pos'] e pos) (tAsg te (BX i)):=by
 intro pins s σ H D I h
 refine wpAny_Assign_Name (thn (he pins s σ H _ I h) fun v s1 ⟨y,H1,I1,r1,q1⟩=>?_) hs
 exact ib I1 hN hi hx r1 (fun s2 I2=>⟨_,H1,I2,q1⟩) hf
def tPar (i j:Nat) (ta:TA):TS:=fun D σ H=>ta σ H fun vs H1=>∃ v w,vs = [v,w]∧D.nx ((σ.set i (some v)).set j (some w)) H1
theorem Gg {i j:Nat} {x y:Str} {a b:Expr} {ta:TA} {px py pt:Pos} {kt k2 pt2} (hc:X.calm = true) (hN:X.N.Nodup) (hi:X.N[i]? = some x) (hj:X.N[j]? = some y) (hij:i≠j)
  (hx:X.env.scope.names.lookup x = some .local) (hy:X.env.scope.names.lookup y = some .local) (ha:PA X [a,b] ta)
  (hw:swappedStores [.Tuple [.Name x px,.Name y py] kt pt] (.Tuple [a,b] k2 pt2) X.env = pure (some [x,y]))
  (hs:swapsWithSole [.Tuple [.Name x px,.Name y py] kt pt] (.Tuple [a,b] k2 pt2) pos.line X.env = pure false:=by rfl) :
  PS X (.Assign [.Tuple [.Name x px,.Name y py] kt pt] (.Tuple [a,b] k2 pt2) pos) (tPar i j ta):=by
 intro pins s σ H D I h
 rw [exec_Assign_arm]
 refine wpAny_bind (wpAny_standAt ?_)
 rw [hs]
 refine wpAny_bind (wpAny_pure ?_)
 rw [if_neg (by decide)]
 refine wpAny_bind (Tuple_ (thn (ha _ pins s σ H _ I h) fun us s1 ⟨vs,H1,I1,r1,q1⟩=>?_))
 obtain ⟨v,w,e1,q1⟩:=q1
 subst e1
 obtain ⟨u1,u2,rfl,rv,rw'⟩ : ∃ u1 u2,us = [u1,u2]∧RelV v u1∧RelV w u2:=by
  cases r1 with
  | cons p q =>
   cases q with
   | cons p' q' =>
    cases q'
    exact ⟨_,_,rfl,p,p'⟩
 refine wpAny_newObj_type ?_ (by show 2≤sizeLine; decide)
 have I2:Inv X pins σ H1 { s1 with heap:=s1.heap.push { cls:=.type "tuple",data:=.seq [u1,u2].toArray } }:=I1.kept (t':=s1.toks) fun b o e=>Heap.get?_push_of_some _ e
 rw [hw]
 refine wpAny_bind (wpAny_pure ?_)
 show wpAny (model X.prog X.w) X.A (do rule "assign.swapped-stores"; let items ← unpackItems (.ref s1.heap.objs.size) 2 none; assignInOrder [fun v=>bindName X.env y v,fun v=>bindName X.env x v] items.reverse; pure Flow.next) _ _ _
 refine wpAny_bind (wpAny_rule (wpAny_bind (unpackItems_tuple (items:=#[u1,u2]) (I.ok.hd hc) (IsTup.new s1.heap _) fun h' hx'=>?_)))
 have I3:=I2.kept (h':=h') (t':=s1.toks) fun b o e=>hx' b o (Nat.ne_of_lt (Heap.lt_size e)) e
 show wpAny _ _ (assignInOrder [fun v=>bindName X.env y v,fun v=>bindName X.env x v] [u2,u1] >>= fun _=>pure Flow.next) _ _ _
 refine wpAny_bind (assignInOrder_cons (wpAny_bindName (ib I3 hN hj (.inl hy) rw' (fun s2 I4=>?_) (.inr hy))))
 refine assignInOrder_cons (wpAny_bindName (ib I4 hN hi (.inl hx) rv (fun s3 I5=>assignInOrder_nil (wpAny_pure ?_)) (.inr hx)))
 rw [List.set_comm _ _ (Ne.symm hij)] at I5
 exact ⟨_,H1,I5,q1⟩
end
section
variable {X:Cx} {pos:Pos}
def Dq (c:TT) (tb:TS):TS:=fun D σ H=>∃ W:Nat→St→Hp→Prop,(∃ m,W m σ H)∧∀ m σ H,W m σ H →
 c σ H fun b H1=>if b = true then ∃ N:St→Hp→Prop,(∀ σ' H',N σ' H'→∃ m',m' < m∧W m' σ' H')∧tb { D with nx:=N,ct:=N,bk:=D.nx } σ H1 else D.nx σ H1
theorem wq {c:Expr} {body:List Stmt} {tc:TT} {tb:TS} (hp:PassesOwn (model X.prog X.w) X.A X.env X.xe) (hc:PT X c tc) (hb:PSs X body tb):PS X (.While c body [] pos) (Dq tc tb):=by
 intro pins s σ H D I h
 obtain ⟨W,⟨m0,w0⟩,turn⟩:=h
 refine wpAny_While (codeAny_whileLoop (fun n s'=>∃ σ' H',Inv X pins σ' H' s'∧W n σ' H') ?_ m0 ⟨σ,H,I,w0⟩)
 rintro n s1 ⟨σ1,H1,I1,w1⟩
 refine wpAny_passesOwn hp (thn (hc pins s1 σ1 H1 _ I1 (turn n σ1 H1 w1)) fun b s2 ⟨H2,I2,q2⟩=>?_)
 cases b with
 | true =>
  obtain ⟨N,hN,q2⟩:=q2
  rw [if_pos rfl]
  refine wpAny_passesOwn hp (thn (hb pins s2 σ1 H2 _ I2 q2) fun f s3 q3=>?_)
  cases f with
  | next =>
   obtain ⟨σ3,H3,I3,n3⟩:=q3
   obtain ⟨m',hm,w3⟩:=hN σ3 H3 n3
   exact ⟨m',hm,σ3,H3,I3,w3⟩
  | cont =>
   obtain ⟨σ3,H3,I3,n3⟩:=q3
   obtain ⟨m',hm,w3⟩:=hN σ3 H3 n3
   exact ⟨m',hm,σ3,H3,I3,w3⟩
  | brk=>exact q3
  | ret v=>exact q3
 | false =>
  rw [if_neg Bool.false_ne_true]
  exact wpAny_execs_nil ⟨σ1,H2,I2,q2⟩
end
structure It where
 go:Nat→Hp→Prop
 yld:Nat→Hp→V→Hp→Prop
 stop:Nat→Hp→Prop
def FpOk (X:Cx) (pins:List (Addr×Obj)) (H:Hp) (b:Addr):Prop :=
 H b = none∧b≠X.env.locals∧b∉X.fs∧(b∈X.ex∨X.s₀.heap.objs.size≤b)∧(∀ x c,X.env.cells.lookup x = some c→c≠b)∧∀ p∈X.pn++pins,p.1≠b
theorem Inv.fpOk {X:Cx} {pins:List (Addr×Obj)} {σ : St} {H H':Hp} {s:Shared} {b:Addr} (I:Inv X pins σ H s) (hb:s.heap.objs.size≤b) (hn:H' b = none):FpOk X pins H' b:=by
 refine ⟨hn,Nat.ne_of_gt (Nat.lt_of_lt_of_le I.lt hb),I.nofs hb,.inr (Nat.le_trans I.sz hb),fun x c e z=>?_,fun p hp z=>?_⟩
 ·obtain ⟨v,q⟩:=I.cell x c e
  exact absurd (Nat.lt_of_lt_of_le q.lt (by rw [z]; exact hb)) (Nat.lt_irrefl _)
 ·exact absurd (Nat.lt_of_lt_of_le (Heap.lt_size (I.pin p hp).1) (by rw [z]; exact hb)) (Nat.lt_irrefl _)
structure Turn (P:Program) (w:World) (K:PySem.W.Frag) (tg:Expr) (J:It) (fp:List Addr) (it:Addr) (tn:Nat→Heap→Prop):Prop where
 mem:it∈fp
 obj:∀ i h,tn i h→∀ b∈fp,∃ o,h.get? b = some o∧∀ v,o.data≠.cell v
 keep:∀ i h h',tn i h→(∀ b∈fp,∀ o,h.get? b = some o→h'.get? b = some o)→tn i h'
 item:∀ (X:Cx),X.prog = P→X.w = w→X.K = K→X.calm = true→∀ (i:Nat) (pins:List (Addr×Obj)) (s:Shared) (σ : St) (H:Hp) (E:Value→Shared→Prop),Inv X pins σ H s→(∀ b∈fp,FpOk X pins H b)→tn i s.heap→J.go i H →
  wpAny (model P w) X.A (pyNext (.ref it)) (fun r s1=>∃ u,r = some u ∧
   wpAny (model P w) X.A (letOwnedTupleGo tg (.ref it) u) (fun _ s2=>∃ x H',Inv X pins σ H' s2∧RelV x u∧J.yld i H x H'∧tn (i + 1) s2.heap∧∀ b∈fp,H' b = none) E s1) E s
 done:∀ (X:Cx),X.prog = P→X.w = w→X.K = K→X.calm = true→∀ (i:Nat) (pins:List (Addr×Obj)) (s:Shared) (σ : St) (H:Hp) (E:Value→Shared→Prop),Inv X pins σ H s→(∀ b∈fp,FpOk X pins H b)→tn i s.heap→J.stop i H →
  wpAny (model P w) X.A (pyNext (.ref it)) (fun r s1=>r = none∧Inv X pins σ H s1) E s
 self:∀ (A:Around) (i:Nat) (s:Shared) (Q:Value→Shared→Prop) (E:Value→Shared→Prop),tn i s.heap→Q (.ref it) s→wpAny (model P w) A (pyIter (.ref it)) Q E s
abbrev TI:=St→Hp→(It→Hp→Prop)→Prop
def PIE (X:Cx) (pins:List (Addr×Obj)) (σ : St) (tg:Expr) (R:It→Hp→Prop) (itv:Value) (s2:Shared):Prop :=
 ∃ (it:Addr) (fp:List Addr) (tn:Nat→Heap→Prop) (J:It) (H':Hp),itv = .ref it∧Inv X pins σ H' s2∧Turn X.prog X.w X.K tg J fp it tn∧tn 0 s2.heap∧(∀ b∈fp,FpOk X pins H' b)∧R J H'
def PI (X:Cx) (tg iter:Expr) (wi:TI):Prop :=
 ∀ (pins:List (Addr×Obj)) (s:Shared) (σ : St) (H:Hp) (R:It→Hp→Prop),Inv X pins σ H s→wi σ H R →
  wpAny (model X.prog X.w) X.A (eval iter X.env) (fun v s1=>wpAny (model X.prog X.w) X.A (pyIter v) (PIE X pins σ tg R) X.xe s1) X.xe s
theorem v9 {M:Model} {A:Around} {E:Value→Shared→Prop} {s:Shared} {tg:Expr} {it:Addr} {u:Value} {o:Obj} {n:String} {vs:Array Value} {Q:Unit→Shared→Prop} (ho:s.heap.get? it = some o) (hc:o.cls = .type n) (hd:o.data = .fields vs)
  (hn:["enumerate", "zip", "dict_itemiterator", "dict_reverseitemiterator", "odict_iterator", "itertools.zip_longest", "itertools.pairwise"].contains n = false) (hQ:Q () s):wpAny M A (letOwnedTupleGo tg (.ref it) u) Q E s:=by
 unfold letOwnedTupleGo
 cases tg <;> first
  | exact wpAny_pure hQ
  | (cases u <;> first
    | exact wpAny_pure hQ
    | (refine wpAny_bind (wpAny_load ho ?_)
       rw [hc,hd]
       show wpAny M A (if (["enumerate", "zip", "dict_itemiterator", "dict_reverseitemiterator", "odict_iterator", "itertools.zip_longest", "itertools.pairwise"].contains n && vs[0]? == some (rawInt _)) = true then _ else _) Q E s
       rw [if_neg (by intro h; rw [hn,Bool.false_and] at h; cases h)]
       exact wpAny_pure hQ))
def Itl (K:PySem.W.Frag) (a:Addr):It :=
 ⟨fun i H=>∃ xs x,SqL K H a xs∧xs[i]? = some x,fun i H x H'=>H' = H∧∀ xs,SqL K H a xs→xs[i]? = some x,fun i H=>∃ xs,SqL K H a xs∧xs.length≤i⟩
def Itt (K:PySem.W.Frag) (a:Addr):It :=
 ⟨fun i H=>∃ xs x,SqT K H a xs∧xs[i]? = some x,fun i H x H'=>H' = H∧∀ xs,SqT K H a xs→xs[i]? = some x,fun i H=>∃ xs,SqT K H a xs∧xs.length≤i⟩
def Itr (lo:Int) (n:Nat):It:=⟨fun i _=>i < n,fun i H x H'=>H' = H∧x = .int (lo + i),fun i _=>n≤i⟩
theorem qQ {P:Program} {w:World} {K:PySem.W.Frag} {tg:Expr} (a it:Addr):Turn P w K tg (Itl K a) [it] it (fun i h=>h.IsListIter it a i) where
 mem:=by simp
 obj:=fun i h st b hb=>by
  have e:b = it:=by simpa using hb
  subst e
  obtain ⟨o,e,c,d⟩:=st
  exact ⟨o,e,fun v z=>by rw [d] at z; cases z⟩
 keep:=fun i h h' st k=>st.at fun o e=>k it (by simp) o e
 item:=by
  intro X hP hw hK hc i pins s σ H E I hf st hg
  subst hP hw hK
  obtain ⟨xs,x,hq,hx⟩:=hg
  obtain ⟨its,rv,p,hz⟩:=I.list hq
  obtain ⟨u,hu,ru⟩:=rv.get hx
  obtain ⟨f0,f1,f2,f3,f4,f5⟩:=hf it (by simp)
  refine wpAny_pyNext_list_item st p.isList (x:=u) (by simpa using hu) fun h' st' sb=>?_
  have I1:Inv X pins σ H { s with heap:=h' }:=I.turned (t':=s.toks) (fun b o hb e=>(sb.2 b hb).trans e) f0 f1 f3 f4 f5
  obtain ⟨o,e,c,d⟩:=id st'
  exact ⟨u,rfl,v9 (s:={ s with heap:=h' }) e c d (by decide) ⟨x,H,I1,ru,⟨rfl,fun ys hy=>by rw [I.list_inj hy hq]; exact hx⟩,st',fun b hb=>(hf b hb).1⟩⟩
 done:=by
  intro X hP hw hK hc i pins s σ H E I hf st hg
  subst hP hw hK
  obtain ⟨xs,hq,hx⟩:=hg
  obtain ⟨its,rv,p,hz⟩:=I.list hq
  obtain ⟨f0,f1,f2,f3,f4,f5⟩:=hf it (by simp)
  have hl:=rv.length
  exact wpAny_pyNext_list_end (I.ok.hd hc) st p.isList (by simp; omega) fun h' eb=>⟨rfl,I.turned (t':=s.toks) (fun b o hb e=>eb b o hb e) f0 f1 f3 f4 f5⟩
 self:=fun _ _ _ _ _ st h=>wpAny_pyIter_listiter st h
theorem p7 {P:Program} {w:World} {K:PySem.W.Frag} {tg:Expr} (a it:Addr):Turn P w K tg (Itt K a) [it] it (fun i h=>h.IsTupleIter it a i) where
 mem:=by simp
 obj:=fun i h st b hb=>by
  have e:b = it:=by simpa using hb
  subst e
  obtain ⟨o,e,c,d⟩:=st
  exact ⟨o,e,fun v z=>by rw [d] at z; cases z⟩
 keep:=fun i h h' st k=>st.at fun o e=>k it (by simp) o e
 item:=by
  intro X hP hw hK hc i pins s σ H E I hf st hg
  subst hP hw hK
  obtain ⟨xs,x,hq,hx⟩:=hg
  obtain ⟨its,rv,p,hz⟩:=I.tuple hq
  obtain ⟨u,hu,ru⟩:=rv.get hx
  obtain ⟨f0,f1,f2,f3,f4,f5⟩:=hf it (by simp)
  refine wpAny_pyNext_tuple_item st (show s.heap.IsTuple a its.toArray from p) (x:=u) (by simpa using hu) fun h' st' sb=>?_
  have I1:Inv X pins σ H { s with heap:=h' }:=I.turned (t':=s.toks) (fun b o hb e=>(sb.2 b hb).trans e) f0 f1 f3 f4 f5
  obtain ⟨o,e,c,d⟩:=id st'
  exact ⟨u,rfl,v9 (s:={ s with heap:=h' }) e c d (by decide) ⟨x,H,I1,ru,⟨rfl,fun ys hy=>by rw [I.tuple_inj hy hq]; exact hx⟩,st',fun b hb=>(hf b hb).1⟩⟩
 done:=by
  intro X hP hw hK hc i pins s σ H E I hf st hg
  subst hP hw hK
  obtain ⟨xs,hq,hx⟩:=hg
  obtain ⟨its,rv,p,hz⟩:=I.tuple hq
  obtain ⟨f0,f1,f2,f3,f4,f5⟩:=hf it (by simp)
  have hl:=rv.length
  exact wpAny_pyNext_tuple_end (I.ok.hd hc) st (show s.heap.IsTuple a its.toArray from p) (by simp; omega) fun h' eb=>⟨rfl,I.turned (t':=s.toks) (fun b o hb e=>eb b o hb e) f0 f1 f3 f4 f5⟩
 self:=fun _ _ _ _ _ st h=>wpAny_pyIter_tupleiter st h
theorem pD {P:Program} {w:World} {K:PySem.W.Frag} {tg:Expr} (it:Addr) (lo:Int) (n:Nat):Turn P w K tg (Itr lo n) [it] it (fun i h=>IsRangeIter h it (lo + (i:Nat) * 1) ((n:Int) - (i:Nat)) 1) where
 mem:=by simp
 obj:=fun i h st b hb=>by
  have e:b = it:=by simpa using hb
  subst e
  exact ⟨_,st,fun v z=>by
   have z':Data.fields _ = Data.cell v:=z
   cases z'⟩
 keep:=fun i h h' st k=>k it (by simp) _ st
 item:=by
  intro X hP hw hK hc i pins s σ H E I hf st hg
  subst hP hw hK
  obtain ⟨f0,f1,f2,f3,f4,f5⟩:=hf it (by simp)
  have W:=Walks.range (prog:=X.prog) (w:=X.w) (I.ok.hd hc) it lo 1 n
  refine W.item i s _ _ hg st fun v h' tk hv st' kk=>?_
  obtain ⟨t,rfl⟩:=hv
  have I1:Inv X pins σ H { s with heap:=h',toks:=tk }:=I.turned (fun b o hb e=>kk b o (by simpa using hb) e) f0 f1 f3 f4 f5
  refine ⟨_,rfl,v9 (s:={ s with heap:=h',toks:=tk }) (n := "range_iterator") st' rfl rfl (by decide) ⟨.int (lo + i),H,I1,⟨t,?_⟩,⟨rfl,rfl⟩,st',fun b hb=>(hf b hb).1⟩⟩
  rw [Int.mul_one]
 done:=by
  intro X hP hw hK hc i pins s σ H E I hf st hg
  subst hP hw hK
  obtain ⟨f0,f1,f2,f3,f4,f5⟩:=hf it (by simp)
  exact wpAny_pyNext_range_end (I.ok.hd hc) st (by have:n≤i:=hg; omega) fun h' eb=>⟨rfl,I.turned (t':=s.toks) (fun b o hb e=>eb b o hb e) f0 f1 f3 f4 f5⟩
 self:=fun _ _ _ _ _ st h=>wpAny_pyIter_rangeiter st h
section
variable {X:Cx} {tg:Expr}
theorem w5 {pins:List (Addr×Obj)} {σ : St} {H:Hp} {s:Shared} {R:It→Hp→Prop} {E:Value→Shared→Prop} {lo hi:Int} {t u v:Tok} {tk:Nat} (I:Inv X pins σ H s) (h1 : -(2 ^ 62)≤lo) (h2:lo < 2 ^ 62) (h3 : -(2 ^ 62)≤hi) (h4:hi < 2 ^ 62)
  (q:R (Itr lo (hi - lo).toNat) H):wpAny (model X.prog X.w) X.A (pyIter (.ref s.heap.objs.size)) (PIE X pins σ tg R) E { s with heap:=s.heap.push { cls:=.type "range",data:=.fields #[.int lo t,.int hi u,.int 1 v] },toks:=tk }:=by
 refine wpAny_pyIter_range (IsRange.new ..) (small_one h1 h2 h3 h4) ?_
 have I1:Inv X pins σ H { s with heap:=s.heap.push { cls:=.type "range",data:=.fields #[.int lo t,.int hi u,.int 1 v] },toks:=tk }:=I.kept fun b o e=>Heap.get?_push_of_some _ e
 refine ⟨(s.heap.push { cls:=.type "range",data:=.fields #[.int lo t,.int hi u,.int 1 v] }).objs.size,[(s.heap.push { cls:=.type "range",data:=.fields #[.int lo t,.int hi u,.int 1 v] }).objs.size],_,_,H,rfl,
  I1.kept (t':=tk) fun b o e=>Heap.get?_push_of_some _ e,pD _ lo (hi - lo).toNat,?_,fun b hb=>?_,q⟩
 ·have e1:lo + ((0:Nat):Int) * 1 = lo:=by simp
  have e2:(((hi - lo).toNat:Nat):Int) - ((0:Nat):Int) = Builtin.Range.rangeSize lo hi 1:=by rw [rangeSize_one]; split <;> omega
  show IsRangeIter _ _ (lo + ((0:Nat):Int) * 1) ((((hi - lo).toNat:Nat):Int) - ((0:Nat):Int)) 1
  rw [e1,e2]
  exact Heap.get?_push_size _ rfl
 ·have e:b = (s.heap.push { cls:=.type "range",data:=.fields #[.int lo t,.int hi u,.int 1 v] }).objs.size:=by simpa using hb
  subst e
  exact I1.fpOk (Nat.le_refl _) (I1.hok.fresh (Nat.le_refl _))
def JC (ta:TA):TI:=fun σ H R=>ta σ H fun vs H1=>∃ j:Int,vs = [.int j]∧-(2 ^ 62)≤j∧j < 2 ^ 62∧R (Itr 0 j.toNat) H1
theorem sF {a:Expr} {ta:TA} {p pos:Pos} (hg:Gl X "range") (hm:X.mg "range" = none) (ha:PA X [a] ta) (hs:starEach [a] X.env = [(false,eval a X.env)]:=by rfl):PI X tg (.Call (.Name "range" p) [a] [] pos) (JC ta):=by
 intro pins s σ H R I h
 refine Call_ (gH I hg hm boot_range (PyProof.Rows.callWith_type1 (thn (ha pos pins s σ H _ I h) fun us s1 ⟨vs,H1,I1,r1,q1⟩=>?_) hs rfl))
 obtain ⟨j,e,q1,q2,q⟩:=q1
 subst e
 cases r1 with
 | cons r rr =>
  cases rr
  obtain ⟨t,rfl⟩:=r
  exact call_range_1 (w5 I1 (by omega) (by omega) q1 q2 (by simpa using q))
def tFor (wi:TI) (g:TG) (tb:TS):TS:=fun D σ H=>wi σ H fun J H1=>∃ W:Nat→Nat→St→Hp→Prop,(∃ m,W 0 m σ H1)∧∀ i m σ H,W i m σ H →
 (J.stop i H∧D.nx σ H)∨(J.go i H∧∃ N:St→Hp→Prop,(∀ σ' H',N σ' H'→∃ m',m' < m∧W (i + 1) m' σ' H')∧∀ x H',J.yld i H x H'→g x σ H' fun σ2 H2=>tb { D with nx:=N,ct:=N,bk:=D.nx } σ2 H2)
def lJ (fp:List Addr) (h:Heap):List (Addr×Obj):=fp.filterMap fun b=>(h.get? b).map fun o=>(b,o)
theorem d3 {fp:List Addr} {h:Heap} {b:Addr} {o:Obj} (hb:b∈fp) (e:h.get? b = some o):(b,o)∈lJ fp h:=List.mem_filterMap.mpr ⟨b,hb,by rw [e]; rfl⟩
theorem uf {fp:List Addr} {h:Heap} {p:Addr×Obj} (hp:p∈lJ fp h):p.1∈fp∧h.get? p.1 = some p.2:=by
 obtain ⟨b,hb,e⟩:=List.mem_filterMap.mp hp
 cases q:h.get? b with
 | none=>rw [q] at e; cases e
 | some o =>
  rw [q] at e
  have e':(b,o) = p:=Option.some.inj e
  subst e'
  exact ⟨hb,q⟩
theorem Inv.pinned {pins:List (Addr×Obj)} {σ : St} {H:Hp} {s:Shared} {fp:List Addr} (I:Inv X pins σ H s) (hf:∀ b∈fp,FpOk X pins H b) (ho:∀ b∈fp,∃ o,s.heap.get? b = some o∧∀ v,o.data≠.cell v):Inv X (pins++lJ fp s.heap) σ H s :=
 I.pins_of fun p hp=>(List.mem_append.mp hp).elim (fun z=>I.pin p (List.mem_append_right _ z)) fun z=>by
  obtain ⟨hb,e⟩:=uf z
  obtain ⟨f0,f1,f2,_⟩:=hf p.1 hb
  obtain ⟨o,e',d⟩:=ho p.1 hb
  rw [e] at e'; cases e'
  exact ⟨e,f0,f1,f2,d⟩
theorem Inv.unpinned {pins pl:List (Addr×Obj)} {σ : St} {H:Hp} {s:Shared} (I:Inv X (pins++pl) σ H s):Inv X pins σ H s:=I.pins_of fun p hp=>I.pin p (List.mem_append_right _ (List.mem_append_left _ hp))
theorem G9 {iter:Expr} {body:List Stmt} {wi:TI} {g:TG} {tb:TS} {pos:Pos} (hp:PassesOwn (model X.prog X.w) X.A X.env X.xe) (hc:X.calm = true) (hi:PI X tg iter wi) (hg:PG X tg g) (hb:PSs X body tb)
  (hs:∀ x,foldedSetIterable iter X.env x = pure x:=by intro _; rfl):PS X (.For tg iter body [] pos) (tFor wi g tb):=by
 intro pins s σ H D I h
 refine wpAny_For (thn (hi pins s σ H _ I h) fun v s1 h1=>thn h1 fun itv s2 h2=>?_) hs
 obtain ⟨it,fp,tn,J,H2,e,I2,T,st2,f2,W,⟨m0,w0⟩,turn⟩:=h2
 subst e
 have stat:∀ {H':Hp},(∀ b∈fp,H' b = none)→∀ b∈fp,FpOk X pins H' b:=fun hn b hb=>⟨hn b hb,(f2 b hb).2⟩
 refine codeAny_forLoop_any (fun n s'=>∃ i σ' H',Inv X pins σ' H' s'∧tn i s'.heap∧(∀ b∈fp,H' b = none)∧W i n σ' H') ?_ m0 ⟨0,σ,H2,I2,st2,fun b hb=>(f2 b hb).1,w0⟩
 rintro n s3 ⟨i,σ3,H3,I3,st3,fr3,w3⟩
 rcases turn i n σ3 H3 w3 with ⟨stop,qn⟩ | ⟨go,N,hN,step⟩
 ·refine wpAny_passesOwn hp (thn (T.done X rfl rfl rfl hc i pins s3 σ3 H3 X.xe I3 (stat fr3) st3 stop) fun r s4 ⟨hr,I4⟩=>?_)
  subst hr
  exact wpAny_execs_nil ⟨σ3,H3,I4,qn⟩
 ·refine wpAny_passesOwn hp (thn (T.item X rfl rfl rfl hc i pins s3 σ3 H3 X.xe I3 (stat fr3) st3 go) fun r s4 ⟨u,hr,h4⟩=>?_)
  subst hr
  refine wpAny_passesOwn hp (thn h4 fun _ s5 ⟨x,H5,I5,r5,y5,st5,fr5⟩=>?_)
  have I5':=I5.pinned (stat fr5) (T.obj _ _ st5)
  refine wpAny_passesOwn hp (thn (hg _ s5 σ3 H5 x u _ I5' r5 (step x H5 y5)) fun _ s6 ⟨σ6,H6,I6,q6⟩=>?_)
  refine wpAny_passesOwn hp (thn (hb _ s6 σ6 H6 _ I6 q6) fun f s7 q7=>?_)
  have again:∀ {σ7:St} {H7:Hp},Inv X (pins++lJ fp s5.heap) σ7 H7 s7→N σ7 H7→∃ m,m < n∧∃ i σ' H',Inv X pins σ' H' s7∧tn i s7.heap∧(∀ b∈fp,H' b = none)∧W i m σ' H':=fun {σ7 H7} I7 n7=>by
   obtain ⟨m',hm,w7⟩:=hN σ7 H7 n7
   refine ⟨m',hm,i + 1,σ7,H7,I7.unpinned,T.keep _ _ _ st5 fun b hb o e=>(I7.pin (b,o) (List.mem_append_right _ (List.mem_append_right _ (d3 hb e)))).1,fun b hb=>?_,w7⟩
   obtain ⟨o,e,d⟩:=T.obj _ _ st5 b hb
   exact (I7.pin (b,o) (List.mem_append_right _ (List.mem_append_right _ (d3 hb e)))).2.1
  cases f with
  | next=>obtain ⟨σ7,H7,I7,n7⟩:=q7; exact again I7 n7
  | cont=>obtain ⟨σ7,H7,I7,n7⟩:=q7; exact again I7 n7
  | brk=>obtain ⟨σ7,H7,I7,q7⟩:=q7; exact ⟨σ7,H7,I7.unpinned,q7⟩
  | ret v=>obtain ⟨x7,σ7,H7,I7,r7,q7⟩:=q7; exact ⟨x7,σ7,H7,I7.unpinned,r7,q7⟩
end
abbrev R2:=V→V→Hp→VK→Prop
def OpR (X:Cx) (f:Value→Value→Sem Value) (r:R2):Prop :=
 ∀ (pins:List (Addr×Obj)) (s:Shared) (σ : St) (H:Hp) (x y:V) (v u:Value) (Q:VK),Inv X pins σ H s→RelV x v→RelV y u→r x y H Q →
  wpAny (model X.prog X.w) X.A (f v u) (EP X pins σ Q) X.xe s
def UnR (X:Cx) (f:Value→Sem Value) (r:V→Hp→VK→Prop):Prop :=
 ∀ (pins:List (Addr×Obj)) (s:Shared) (σ : St) (H:Hp) (x:V) (v:Value) (Q:VK),Inv X pins σ H s→RelV x v→r x H Q →
  wpAny (model X.prog X.w) X.A (f v) (EP X pins σ Q) X.xe s
def b9 (X:Cx) (f:Value) (r:List V→Hp→VK→Prop):Prop :=
 ∀ (pins:List (Addr×Obj)) (s:Shared) (σ : St) (H:Hp) (xs:List V) (us:List Value) (Q:VK),Inv X pins σ H s→Vals xs us→r xs H Q →
  wpAny (model X.prog X.w) X.A (call f us) (EP X pins σ Q) X.xe s
def tOp (r:R2) (ta tb:TE):TE:=fun σ H Q=>ta σ H fun x H1=>tb σ H1 fun y H2=>r x y H2 Q
def tUn (r:V→Hp→VK→Prop) (ta:TE):TE:=fun σ H Q=>ta σ H fun x H1=>r x H1 Q
def rI (C:Int→Int→Prop) (g:Int→Int→V):R2:=fun x y H Q=>∃ i j,x = .int i∧y = .int j∧C i j∧Q (g i j) H
def rI0 (g:Int→Int→V):R2:=fun x y H Q=>∃ i j,x = .int i∧y = .int j∧Q (g i j) H
def rU (g:Int→V):V→Hp→VK→Prop:=fun x H Q=>∃ i,x = .int i∧Q (g i) H
section
variable {X:Cx} {a b c:Expr} {ta tb tc:TE} {pos:Pos}
theorem binT (ha:PE X a ta) (hb:PE X b tb) {pins:List (Addr×Obj)} {s:Shared} {σ : St} {H:Hp} {R:V→V→Hp→Prop} (I:Inv X pins σ H s)
  (h:ta σ H fun x H1=>tb σ H1 fun y H2=>R x y H2) {Q:Value→Shared→Prop} {f:Value→Value→Sem Value}
  (hf:∀ v u s2 x y H2,Inv X pins σ H2 s2→RelV x v→RelV y u→R x y H2→wpAny (model X.prog X.w) X.A (f v u) Q X.xe s2) :
  wpAny (model X.prog X.w) X.A (eval a X.env) (fun v s₁=>wpAny (model X.prog X.w) X.A (eval b X.env) (fun u s₂=>wpAny (model X.prog X.w) X.A (f v u) Q X.xe s₂) X.xe s₁) X.xe s:=by
 refine thn (ha pins s σ H _ I h) fun v s1 ⟨x,H1,I1,r1,q1⟩=>?_
 refine thn (hb pins s1 σ H1 _ I1 q1) fun u s2 ⟨y,H2,I2,r2,q2⟩=>?_
 exact hf v u s2 x y H2 I2 r1 r2 q2
theorem Js {op:Operator} {r:R2} (ho:OpR X (binaryOp op) r) (ha:PE X a ta) (hb:PE X b tb):PE X (.BinOp a op b pos) (tOp r ta tb):=by
 intro pins s σ H Q I h
 exact wpAny_BinOp (binT ha hb I h fun v u s2 x y H2 I2 rx ry q=>ho pins s2 σ H2 x y v u Q I2 rx ry q)
theorem Kg {op:UnaryOp} {r:V→Hp→VK→Prop} (ho:UnR X (unaryOp op) r) (ha:PE X a ta):PE X (.UnaryOp op a pos) (tUn r ta):=by
 intro pins s σ H Q I h
 exact UnaryOp_ (thn (ha pins s σ H _ I h) fun v s1 ⟨x,H1,I1,r1,q1⟩=>ho pins s1 σ H1 x v Q I1 r1 q1)
theorem opI {f:Value→Value→Sem Value} {C:Int→Int→Prop} {g:Int→Int→Int}
  (rule:∀ (i j:Int) (t u:Tok) (s:Shared) (Q:Value→Shared→Prop) (E:Value→Shared→Prop),C i j→Q (.int (g i j) s.toks) { s with toks:=s.toks + 1 }→wpAny (model X.prog X.w) X.A (f (.int i t) (.int j u)) Q E s) :
  OpR X f (rI C fun i j=>.int (g i j)):=by
 intro pins s σ H x y v u Q I rx ry h
 obtain ⟨i,j,rfl,rfl,hc,q⟩:=h
 obtain ⟨t,rfl⟩:=rx
 obtain ⟨t',rfl⟩:=ry
 exact rule i j t t' s _ _ hc ⟨.int (g i j),H,I.tok _,⟨_,rfl⟩,q⟩
theorem opI0 {f:Value→Value→Sem Value} {g:Int→Int→Int}
  (rule:∀ (i j:Int) (t u:Tok) (s:Shared) (Q:Value→Shared→Prop) (E:Value→Shared→Prop),Q (.int (g i j) s.toks) { s with toks:=s.toks + 1 }→wpAny (model X.prog X.w) X.A (f (.int i t) (.int j u)) Q E s) :
  OpR X f (rI0 fun i j=>.int (g i j)):=by
 intro pins s σ H x y v u Q I rx ry h
 obtain ⟨i,j,rfl,rfl,q⟩:=h
 obtain ⟨t,rfl⟩:=rx
 obtain ⟨t',rfl⟩:=ry
 exact rule i j t t' s _ _ ⟨.int (g i j),H,I.tok _,⟨_,rfl⟩,q⟩
theorem opB0 {f:Value→Value→Sem Value} {g:Int→Int→Bool}
  (rule:∀ (i j:Int) (t u:Tok) (s:Shared) (Q:Value→Shared→Prop) (E:Value→Shared→Prop),Q (.bool (g i j)) s→wpAny (model X.prog X.w) X.A (f (.int i t) (.int j u)) Q E s) :
  OpR X f (rI0 fun i j=>.bl (g i j)):=by
 intro pins s σ H x y v u Q I rx ry h
 obtain ⟨i,j,rfl,rfl,q⟩:=h
 obtain ⟨t,rfl⟩:=rx
 obtain ⟨t',rfl⟩:=ry
 exact rule i j t t' s _ _ ⟨.bl (g i j),H,I,rfl,q⟩
def CPow (i j:Int):Prop:=0≤j∧j≤1000000∧i.natAbs < 2 ^ 64
def CMul (i j:Int):Prop:=(-(2 ^ 64) < i∧i < 2 ^ 64)∨(-(2 ^ 64) < j∧j < 2 ^ 64)
theorem CMul.ok {i j:Int} (h:CMul i j):IntMulOk i j:=by
 rcases h with ⟨h1,h2⟩ | ⟨h1,h2⟩
 ·exact .of_left (intBits_le_64 h1 h2)
 ·exact .of_right (intBits_le_64 h1 h2)
theorem F7:OpR X (binaryOp .Add) (rI0 fun i j=>.int (i + j)):=opI0 fun _ _ _ _ _ _ _ q=>add_int q
theorem GN:OpR X (binaryOp .Mod) (rI (fun _ j=>0 < j) fun i j=>.int (i % j)):=opI fun i j _ _ _ _ _ hc q=>by
 have h1:(0:Int) < j:=hc
 exact mod_int' (by omega) (by rw [Int.fmod_eq_emod_of_nonneg i (by omega)]; exact q)
theorem Fu:OpR X (binaryOp .Pow) (rI CPow fun i j=>.int (i ^ j.toNat)):=opI fun _ _ _ _ _ _ _ hc q=>pow_int_small hc.1 hc.2.1 hc.2.2 q
theorem unI {f:Value→Sem Value} {g:Int→Int}
  (rule:∀ (i:Int) (t:Tok) (s:Shared) (Q:Value→Shared→Prop) (E:Value→Shared→Prop),Q (.int (g i) s.toks) { s with toks:=s.toks + 1 }→wpAny (model X.prog X.w) X.A (f (.int i t)) Q E s) :
  UnR X f (rU fun i=>.int (g i)):=by
 intro pins s σ H x v Q I rx h
 obtain ⟨i,rfl,q⟩:=h
 obtain ⟨t,rfl⟩:=rx
 exact rule i t s _ _ ⟨.int (g i),H,I.tok _,⟨_,rfl⟩,q⟩
theorem DA:UnR X (unaryOp .USub) (rU fun i=>.int (-i)):=unI fun _ _ _ _ _ q=>neg_int q
end
def scal:V→V→Bool
 | .non,.non=>true | .non,.int _=>true | .int _,.non=>true | .non,.bl _=>true | .bl _,.non=>true | .non,.str _=>true | .str _,.non=>true
 | .int _,.int _=>true | .bl _,.bl _=>true | .str _,.str _=>true | .byt _,.byt _=>true
 | .int _,.str _=>true | .str _,.int _=>true | .bl _,.str _=>true | .str _,.bl _=>true
 | _,_=>false
def rEq:R2:=fun x y H Q=>scal x y = true∧Q (.bl (decide (x = y))) H
def rNe:R2:=fun x y H Q=>scal x y = true∧Q (.bl (!decide (x = y))) H
theorem t5 {i j:Int}:decide (V.int i = V.int j) = (i == j):=by
 rw [Bool.eq_iff_iff]
 simp
theorem yK {i j:Bool}:decide (V.bl i = V.bl j) = (i == j):=by
 rw [Bool.eq_iff_iff]
 simp
theorem kf {i j:Str}:decide (V.str i = V.str j) = (i == j):=by
 rw [Bool.eq_iff_iff]
 simp
theorem uC {i j:Array UInt8}:decide (V.byt i = V.byt j) = (i.toList == j.toList):=by
 rw [Bool.eq_iff_iff]
 cases i
 cases j
 simp
section
variable {X:Cx} {a b c:Expr} {ta tb tc:TE} {pos:Pos}
theorem aQ {pins:List (Addr×Obj)} {σ : St} {H:Hp} {s:Shared} {Q:VK} {k k':Bool} (I:Inv X pins σ H s) (q:Q (.bl k) H) (e:k = k'):EP X pins σ Q (.bool k') s:=by
 subst e
 exact ⟨.bl k,H,I,rfl,q⟩
theorem Jk:OpR X (compareOp .Eq) rEq:=by
 intro pins s σ H x y v u Q I rx ry h
 obtain ⟨hs,q⟩:=h
 cases x with
 | non =>
  cases rx
  cases y with
  | non=>cases ry; exact PySem.EqNone.eq_none_none (aQ I q (by simp))
  | bl j=>cases ry; exact PySem.EqNone.eq_none_bool (aQ I q (by simp))
  | int j=>obtain ⟨t',rfl⟩:=ry; exact PySem.EqNone.eq_none_int (aQ I q (by simp))
  | str j=>obtain ⟨t',rfl⟩:=ry; exact PySem.EqNone.eq_none_str (aQ I q (by simp))
  | _=>exact absurd (show false = true from hs) Bool.false_ne_true
 | bl i =>
  cases rx
  cases y with
  | non=>cases ry; exact PySem.EqNone.eq_bool_none (aQ I q (by simp))
  | bl j=>cases ry; exact eq_bool (aQ I q yK)
  | str j=>obtain ⟨t',rfl⟩:=ry; exact PySem.EqMixed.eq_bool_str (aQ I q (by simp))
  | _=>exact absurd (show false = true from hs) Bool.false_ne_true
 | int i =>
  obtain ⟨t,rfl⟩:=rx
  cases y with
  | non=>cases ry; exact PySem.EqNone.eq_int_none (aQ I q (by simp))
  | int j=>obtain ⟨t',rfl⟩:=ry; exact eq_int (aQ I q t5)
  | str j=>obtain ⟨t',rfl⟩:=ry; exact PySem.EqMixed.eq_int_str (aQ I q (by simp))
  | _=>exact absurd (show false = true from hs) Bool.false_ne_true
 | str i =>
  obtain ⟨t,rfl⟩:=rx
  cases y with
  | non=>cases ry; exact PySem.EqNone.eq_str_none (aQ I q (by simp))
  | bl j=>cases ry; exact PySem.EqMixed.eq_str_bool (aQ I q (by simp))
  | int j=>obtain ⟨t',rfl⟩:=ry; exact PySem.EqMixed.eq_str_int (aQ I q (by simp))
  | str j=>obtain ⟨t',rfl⟩:=ry; exact eq_str (aQ I q kf)
  | _=>exact absurd (show false = true from hs) Bool.false_ne_true
 | byt i =>
  obtain ⟨t,rfl⟩:=rx
  cases y with
  | byt j=>obtain ⟨t',rfl⟩:=ry; exact PySem.W.eq_bytes (aQ I q uC)
  | _=>exact absurd (show false = true from hs) Bool.false_ne_true
 | _=>cases y <;> exact absurd (show false = true from hs) Bool.false_ne_true
theorem JE:OpR X (compareOp .NotEq) rNe:=by
 intro pins s σ H x y v u Q I rx ry h
 obtain ⟨hs,q⟩:=h
 cases x with
 | non =>
  cases rx
  cases y with
  | non=>cases ry; exact PySem.EqNone.ne_none_none (aQ I q (by simp))
  | bl j=>cases ry; exact PySem.EqNone.ne_none_bool (aQ I q (by simp))
  | int j=>obtain ⟨t',rfl⟩:=ry; exact PySem.EqNone.ne_none_int (aQ I q (by simp))
  | str j=>obtain ⟨t',rfl⟩:=ry; exact PySem.EqNone.ne_none_str (aQ I q (by simp))
  | _=>exact absurd (show false = true from hs) Bool.false_ne_true
 | bl i =>
  cases rx
  cases y with
  | non=>cases ry; exact PySem.EqNone.ne_bool_none (aQ I q (by simp))
  | bl j=>cases ry; exact ne_bool (aQ I q (congrArg not yK))
  | str j=>obtain ⟨t',rfl⟩:=ry; exact PySem.EqMixed.ne_bool_str (aQ I q (by simp))
  | _=>exact absurd (show false = true from hs) Bool.false_ne_true
 | int i =>
  obtain ⟨t,rfl⟩:=rx
  cases y with
  | non=>cases ry; exact PySem.EqNone.ne_int_none (aQ I q (by simp))
  | int j=>obtain ⟨t',rfl⟩:=ry; exact ne_int (aQ I q (congrArg not t5))
  | str j=>obtain ⟨t',rfl⟩:=ry; exact PySem.EqMixed.ne_int_str (aQ I q (by simp))
  | _=>exact absurd (show false = true from hs) Bool.false_ne_true
 | str i =>
  obtain ⟨t,rfl⟩:=rx
  cases y with
  | non=>cases ry; exact PySem.EqNone.ne_str_none (aQ I q (by simp))
  | bl j=>cases ry; exact PySem.EqMixed.ne_str_bool (aQ I q (by simp))
  | int j=>obtain ⟨t',rfl⟩:=ry; exact PySem.EqMixed.ne_str_int (aQ I q (by simp))
  | str j=>obtain ⟨t',rfl⟩:=ry; exact ne_str (aQ I q (congrArg not kf))
  | _=>exact absurd (show false = true from hs) Bool.false_ne_true
 | byt i =>
  obtain ⟨t,rfl⟩:=rx
  cases y with
  | byt j=>obtain ⟨t',rfl⟩:=ry; exact PySem.W.ne_bytes (aQ I q (congrArg not uC))
  | _=>exact absurd (show false = true from hs) Bool.false_ne_true
 | _=>cases y <;> exact absurd (show false = true from hs) Bool.false_ne_true
theorem JF:OpR X (compareOp .Lt) (rI0 fun i j=>.bl (decide (i < j))):=opB0 fun _ _ _ _ _ _ _ q=>lt_int q
theorem Jb:OpR X (compareOp .LtE) (rI0 fun i j=>.bl (decide (i≤j))):=opB0 fun _ _ _ _ _ _ _ q=>le_int q
theorem JH:OpR X (compareOp .Gt) (rI0 fun i j=>.bl (decide (j < i))):=opB0 fun _ _ _ _ _ _ _ q=>gt_int q
theorem J4:OpR X (compareOp .GtE) (rI0 fun i j=>.bl (decide (j≤i))):=opB0 fun _ _ _ _ _ _ _ q=>ge_int q
theorem DW:OpR X (compareOp .Is) (fun x y H Q=>y = .non∧Q (.bl (decide (x = .non))) H):=by
 intro pins s σ H x y v u Q I rx ry h
 obtain ⟨rfl,q⟩:=h
 cases ry
 refine is_none_gen (aQ I q ?_)
 cases x <;> first
  | (cases rx; rfl)
  | (obtain ⟨t,rfl⟩:=rx; rfl)
theorem Aq:OpR X (compareOp .IsNot) (fun x y H Q=>y = .non∧Q (.bl (!decide (x = .non))) H):=by
 intro pins s σ H x y v u Q I rx ry h
 obtain ⟨rfl,q⟩:=h
 cases ry
 refine isnot_none_gen (aQ I q ?_)
 cases x <;> first
  | (cases rx; rfl)
  | (obtain ⟨t,rfl⟩:=rx; rfl)
theorem lB:OpR X (compareOp .NotIn) (fun x y H Q=>∃ i j,x = .str i∧y = .str j∧Q (.bl (!(!(Builtin.Str.occurrences j i 0 j.length 1).isEmpty))) H):=by
 intro pins s σ H x y v u Q I rx ry h
 obtain ⟨i,j,rfl,rfl,q⟩:=h
 obtain ⟨t,rfl⟩:=rx
 obtain ⟨t',rfl⟩:=ry
 exact notIn_str (aQ I q rfl)
theorem az (b:Expr) {op:CmpOp} (h:op≠.In:=by decide) (h2:op≠.NotIn:=by decide):behindInMarks op b = false:=by
 have e1:(op == CmpOp.In) = false:=by cases op <;> first | rfl | exact absurd rfl h
 have e2:(op == CmpOp.NotIn) = false:=by cases op <;> first | rfl | exact absurd rfl h2
 cases b <;> simp [behindInMarks,e1,e2]
theorem B7 {op:CmpOp} {r:R2} (ho:OpR X (compareOp op) r) (ha:PE X a ta) (hb:PE X b tb) (hm:behindInMarks op b = false):PE X (.Compare a [op] [b] pos) (tOp r ta tb):=by
 intro pins s σ H Q I h
 exact wpAny_Compare1 (binT ha hb I h fun v u s2 x y H2 I2 rx ry q=>ho pins s2 σ H2 x y v u Q I2 rx ry q) hm
def Gh (t:TE):TT:=fun σ H Q=>t σ H fun x H'=>∃ k,x = .bl k∧Q k H'
theorem AB {op:CmpOp} {r:R2} (ho:OpR X (compareOp op) r) (ha:PE X a ta) (hb:PE X b tb) (hm:behindInMarks op b = false):PT X (.Compare a [op] [b] pos) (Gh (tOp r ta tb)):=by
 intro pins s σ H Q I h
 refine wpAny_isTrue_Compare1 (thn (ha pins s σ H _ I h) fun v s1 ⟨x,H1,I1,r1,q1⟩=>thn (hb pins s1 σ H1 _ I1 q1) fun u s2 ⟨y,H2,I2,r2,q2⟩ =>
  thn (ho pins s2 σ H2 x y v u _ I2 r1 r2 q2) fun c s3 ⟨z,H3,I3,r3,k,e,q3⟩=>?_) hm
 subst e
 cases r3
 exact wpAny_truthy_bool ⟨H3,I3,q3⟩
def yY (r r':R2) (ta tb tc:TE):TE:=fun σ H Q=>ta σ H fun x H1=>tb σ H1 fun y H2=>r x y H2 fun z H3=>∃ k,z = .bl k ∧
 (if k = true then tc σ H3 fun w' H4=>r' y w' H4 Q else Q (.bl false) H3)
theorem vI {op op':CmpOp} {r r':R2} (ho:OpR X (compareOp op) r) (ho':OpR X (compareOp op') r') (ha:PE X a ta) (hb:PE X b tb) (hc:PE X c tc)
  (hm:lastMarks [op,op'] [b,c] = false:=by with_unfolding_all rfl):PE X (.Compare a [op,op'] [b,c] pos) (yY r r' ta tb tc):=by
 intro pins s σ H Q I h
 refine Compare_chain (thn (ha pins s σ H _ I h) fun v s1 ⟨x,H1,I1,r1,q1⟩=>chain_link (thn (hb pins s1 σ H1 _ I1 q1) fun u s2 ⟨y,H2,I2,r2,q2⟩ =>
  thn (ho pins s2 σ H2 x y v u _ I2 r1 r2 q2) fun d s3 ⟨z,H3,I3,r3,k,e,q3⟩=>?_)) hm
 subst e
 cases r3
 refine wpAny_truthy_bool ?_
 cases k with
 | false=>exact ite_ff ⟨.bl false,H3,I3,rfl,q3⟩
 | true=>exact ite_tt (chain_last (thn (hc pins s3 σ H3 _ I3 q3) fun w' s4 ⟨z',H4,I4,r4,q4⟩=>ho' pins s4 σ H4 y z' u w' Q I4 r2 r4 q4))
theorem jx:(sizeLine:Nat) < 2 ^ 63:=by rw [sizeLine_eq]; decide
theorem pZ:OpR X (binaryOp .Add) (fun x y H Q=>∃ i j,x = .str i∧y = .str j∧i.length + j.length≤sizeLine∧Q (.str (i++j)) H):=by
 intro pins s σ H x y v u Q I rx ry h
 obtain ⟨i,j,rfl,rfl,hz,q⟩:=h
 obtain ⟨t,rfl⟩:=rx
 obtain ⟨t',rfl⟩:=ry
 exact add_str (fun t' tk=>⟨.str (i++j),H,I.tok _,⟨_,rfl⟩,q⟩) hz
theorem nQ {x:V} {us:List Value} (r:Vals [x] us):∃ u,us = [u]∧RelV x u:=by
 cases r with
 | cons r1 r2=>cases r2; exact ⟨_,rfl,r1⟩
theorem Kh {x y:V} {us:List Value} (r:Vals [x,y] us):∃ u w',us = [u,w']∧RelV x u∧RelV y w':=by
 cases r with
 | cons r1 r2 =>
  cases r2 with
  | cons r3 r4=>cases r4; exact ⟨_,_,rfl,r1,r3⟩
theorem uV (hc:X.calm = true):b9 X (.builtin "max") (fun xs H Q=>∃ i j,xs = [.int i,.int j]∧Q (.int (if j > i then j else i)) H):=by
 intro pins s σ H xs us Q I r h
 obtain ⟨i,j,rfl,q⟩:=h
 obtain ⟨u,w',rfl,⟨t,rfl⟩,⟨t',rfl⟩⟩:=Kh r
 refine max_two_ints (I.ok.hd hc) fun h' tk k=>⟨_,H,I.kept k,?_,q⟩
 by_cases hj:j > i
 ·rw [if_pos hj,if_pos hj]; exact ⟨_,rfl⟩
 ·rw [if_neg hj,if_neg hj]; exact ⟨_,rfl⟩
theorem l8:b9 X (.type "int") (fun xs H Q=>(∃ i,xs = [.int i]∧Q (.int i) H)∨∃ k,xs = [.bl k]∧Q (.int (if k then 1 else 0)) H):=by
 intro pins s σ H xs us Q I r h
 rcases h with ⟨i,rfl,q⟩ | ⟨k,rfl,q⟩
 ·obtain ⟨u,rfl,t,rfl⟩:=nQ r
  exact call_int_int ⟨.int i,H,I,⟨_,rfl⟩,q⟩
 ·obtain ⟨u,rfl,r1⟩:=nQ r
  cases r1
  exact call_int_bool ⟨.int (if k then 1 else 0),H,I.tok _,⟨_,rfl⟩,q⟩
theorem l3:b9 X (.type "str") (fun xs H Q=>∃ i,xs = [.int i]∧i.natAbs.log2 < 1920∧Q (.str (toString i)) H):=by
 intro pins s σ H xs us Q I r h
 obtain ⟨i,rfl,hz,q⟩:=h
 obtain ⟨u,rfl,t,rfl⟩:=nQ r
 exact PySem.P.str_of_int hz ⟨.str _,H,I.tok _,⟨_,rfl⟩,q⟩
end
structure ObjM (h:Heap) (x dx C:Addr) (mA:Str→Option Value):Prop where
 obj:h.get? x = some (PySem.W.instObj C dx)
 ns:h.Ns1 dx mA
 ne:dx≠x
theorem tp {h:Heap} {dx:Addr} {mA:Str→Option Value} (n:h.Ns1 dx mA):∃ od,h.get? dx = some od∧∀ name,PySem.W.lookIn name od = some (mA name):=by
 obtain ⟨o,es,ep,ho,hd,hk,_,hm⟩:=n
 refine ⟨o,ho,fun name=>?_⟩
 have e:=hm name
 unfold nsFind findBy at e
 rw [←Array.find?_toList] at e
 unfold PySem.W.lookIn
 rw [hd]
 dsimp only
 split
 ·rename_i y q
  rw [q] at e
  exact congrArg some e
 ·rename_i q
  rw [q] at e
  have a:es.toList.any (·.refKey) = false:=by
   rw [List.any_eq_false]
   intro y hy
   obtain ⟨z,t,hkey⟩:=hk y (Array.mem_toList_iff.mp hy)
   simp [DictEntry.refKey,hkey]
  have a':¬ es.toList.any (·.refKey) = true:=by rw [a]; exact Bool.false_ne_true
  rw [if_neg a']
  exact congrArg some e
theorem ObjM.look {h:Heap} {x dx C:Addr} {mA:Str→Option Value} (I:ObjM h x dx C mA):∃ od,PySem.W.InstAt h x (PySem.W.instObj C dx) C (some od)∧∀ name,PySem.W.lookIn name od = some (mA name) :=
 let ⟨od,ho,hl⟩:=tp I.ns
 ⟨od,⟨I.obj,rfl,rfl,ho⟩,hl⟩
section
variable {prog:Program} {w:World} {A:Around} {E:Value→Shared→Prop} {s:Shared} {K:PySem.W.Frag} {x dx C f:Addr} {mA:Str→Option Value} {name:Str} {v:Value}
theorem Ca {expr:Bool} {Q:Value→Shared→Prop} (X:K.In s.heap) (I:ObjM s.heap x dx C mA) (hg:PySem.W.plainGet K C name = true) (hh:PySem.W.hasDictIn K C = true)
  (ha:PySem.W.findIn K (.ref C) name = some none) (hv:mA name = some v) (hv':PySem.W.handedIn v = true) (h:Q v { s with toks:=s.toks + 1 }) :
  wpAny (model prog w) A (getAttr (.ref x) name expr) Q E s:=by
 obtain ⟨od,J,hl⟩:=I.look
 exact PySem.W.get_value X J (PySem.W.plainGet_of hg).1 (PySem.W.findObj_own hh ha rfl (by rw [hl,hv])) hv' h
theorem v7 {pl:Sem Bool} {Q:Value×List Value→Shared→Prop} (X:K.In s.heap) (I:ObjM s.heap x dx C mA) (hg:PySem.W.plainGet K C name = true)
  (hf:PySem.W.findIn K (.ref C) name = some (some (.ref f))) (ht:PySem.W.isFn K (.ref f) = true) (hv:mA name = none) (h:Q (.ref f,[.ref x]) s) :
  wpAny (model prog w) A (getMethod (.ref x) name pl) Q E s:=by
 obtain ⟨od,J,hl⟩:=I.look
 exact PySem.W.method_fn X J (PySem.W.plainGet_of hg).1 (PySem.W.plainGet_of hg).2 hf (beq_iff_eq.mp ht) (by show (PySem.W.lookIn name od).map (·.isSome) = some false; rw [hl,hv]; rfl) h
theorem BO {ns:List Str} {Q:Unit→Shared→Prop} (X:K.In s.heap) (I:ObjM s.heap x dx C mA)
  (hs:PySem.W.findIn K (.ref C) "__setattr__" = some (some (.builtin "object.__setattr__"))) (hp:PySem.W.plainOver K C = true) (ht:PySem.W.takerIn K C name = some none) (hh:PySem.W.hasDictIn K C = true)
  (hw:PySem.Within mA ns) (hsz:ns.length≤sizeLine)
  (h:∀ h',ObjM h' x dx C (fun y=>if y = name then some v else mA y)→Heap.SameBut dx s.heap h'→Q () { s with heap:=h',toks:=s.toks + 2 }) :
  wpAny (model prog w) A (setAttr (.ref x) name v) Q E s:=by
 obtain ⟨od,J,hl⟩:=I.look
 refine PySem.W.set_plain X J hs (PySem.W.osa_open (s:={ s with toks:=s.toks + 1 }) (r:=none) X J hp ht fun b=>?_)
 obtain ⟨cd,hc,hd'⟩:=PySem.W.any_some hh
 have hx:s.heap.get? x = some ⟨.ref C,some dx,.plain,#[]⟩:=I.obj
 refine wpAny_bind (wpAny_pure (wpAny_bind (wpAny_bind (wpAny_loadPart hx (wpAny_bind (PySem.W.Looks.here (s:={ s with toks:=s.toks + 1 }) (PySem.W.looks_clsIn X hc) ?_))))))
 rw [hd']
 refine wpAny_pure (a:=some dx) (wpAny_bind (wpAny_pure (wpAny_bind ?_)))
 refine wpAny_nsSet1 (s:={ s with toks:=s.toks + 1 }) I.ns fun h' hn2 hs2=>?_
 obtain ⟨oD,esD,epD,hoD,hdD,hcD⟩:=hn2.count (PySem.Within.cons name v hw)
 refine wpAny_bind (wpAny_lookBehind hoD (by rw [hdD]; exact pastItsLine_dict (Nat.le_trans hcD (by rw [List.length_cons]; omega))) ?_)
 exact wpAny_pure (h _ ⟨(hs2.2 _ (Ne.symm I.ne)).trans I.obj,hn2,I.ne⟩ hs2)
theorem xY {R:Result→Shared→Prop} {vs:List Value} {kw:List (Str×Value)} (X:K.In s.heap) (hm:PySem.W.makesIn K C = true)
  (hi:PySem.W.findIn K (.ref C) "__init__" = some (some (.ref f))) (hf:PySem.W.typeIn K (.ref f) = some (.type "function"))
  (h:codeAny (model prog w) (A.under (.builtin "type.__call__" ⟨.ref C :: vs,kw⟩)) (.call (.ref f) ⟨.ref (s.heap.objs.size + 1) :: vs,kw⟩) (PySem.W.InitBack (s.heap.objs.size + 1) R)
   { s with heap:=(s.heap.push PySem.W.emptyDict).push (PySem.W.instObj C s.heap.objs.size) }) :
  codeAny (model prog w) A (.call (.ref C) ⟨vs,kw⟩) R s:=by
 obtain ⟨hh,g,d,t,os⟩:=s
 exact PySem.W.make_core (PySem.W.makes_of X hm) (PySem.W.looks_findIn X hi) (fun self=>PySem.W.bind_fn X self hf) (.inl rfl) h
end
def putF (f:Str) (v:V):List (Str×V)→List (Str×V)
 | []=>[(f,v)]
 | (g,x) :: r=>if g = f then (g,v) :: r else (g,x) :: putF f v r
theorem io (f g:Str) (v:V):∀ fs:List (Str×V),(putF f v fs).lookup g = if g = f then some v else fs.lookup g
 | []=>by
  show List.lookup g [(f,v)] = _
  by_cases h:g = f
  ·have hb:(g == f) = true:=beq_iff_eq.mpr h
   simp only [List.lookup,hb,if_pos h]
  ·have hb:(g == f) = false:=beq_eq_false_iff_ne.mpr h
   simp only [List.lookup,hb,if_neg h]
 | (k,x) :: r=>by
  have ih:=io f g v r
  rw [show putF f v ((k,x) :: r) = (if k = f then (k,v) :: r else (k,x) :: putF f v r) from rfl]
  by_cases hk:k = f
  ·rw [if_pos hk]
   by_cases h:g = k
   ·have hb:(g == k) = true:=beq_iff_eq.mpr h
    simp only [List.lookup,hb,if_pos (h.trans hk)]
   ·have hb:(g == k) = false:=beq_eq_false_iff_ne.mpr h
    simp only [List.lookup,hb,if_neg (fun e:g = f=>h (e.trans hk.symm))]
  ·rw [if_neg hk]
   by_cases h:g = k
   ·have hb:(g == k) = true:=beq_iff_eq.mpr h
    simp only [List.lookup,hb,if_neg (fun e:g = f=>hk (h.symm.trans e))]
   ·have hb:(g == k) = false:=beq_eq_false_iff_ne.mpr h
    simp only [List.lookup,hb]
    exact ih
theorem iZ (f:Str) (v:V):∀ fs:List (Str×V),f∈(putF f v fs).map (·.1)∧∀ g,g∈fs.map (·.1)→g∈(putF f v fs).map (·.1)
 | []=>⟨by simp [putF],fun g h=>by simp at h⟩
 | (k,x) :: r=>by
  obtain ⟨i1,i2⟩:=iZ f v r
  rw [show putF f v ((k,x) :: r) = (if k = f then (k,v) :: r else (k,x) :: putF f v r) from rfl]
  by_cases hk:k = f
  ·rw [if_pos hk]
   subst hk
   exact ⟨by simp,fun g h=>by simpa using h⟩
  ·rw [if_neg hk]
   refine ⟨?_,fun g h=>?_⟩
   ·rw [List.map_cons]
    exact List.mem_cons_of_mem _ i1
   ·rw [List.map_cons] at h ⊢
    rcases List.mem_cons.mp h with e | e
    ·exact List.mem_cons.mpr (.inl e)
    ·exact List.mem_cons_of_mem _ (i2 g e)
theorem iP (f:Str) (v:V):∀ fs:List (Str×V),(putF f v fs).length≤fs.length + 1
 | []=>by simp [putF]
 | (k,x) :: r=>by
  have ih:=iP f v r
  rw [show putF f v ((k,x) :: r) = (if k = f then (k,v) :: r else (k,x) :: putF f v r) from rfl]
  by_cases hk:k = f
  ·rw [if_pos hk,List.length_cons,List.length_cons]; omega
  ·rw [if_neg hk,List.length_cons,List.length_cons]; omega
theorem RelO.some_of {v:V} {o:Option Value} (r:RelO (some v) o):∃ u,o = some u∧RelV v u:=by
 cases o with
 | none=>exact (show False from r).elim
 | some u=>exact ⟨u,rfl,r⟩
theorem RelO.none_of {o:Option Value} (r:RelO none o):o = none:=by
 cases o with
 | none=>rfl
 | some u=>exact (show False from r).elim
theorem tz {v:V} {u:Value} (r:RelV v u):PySem.W.handedIn u = true:=by
 cases v with
 | non=>cases (show u = Value.none from r); rfl
 | bl b=>cases (show u = Value.bool b from r); rfl
 | int i=>obtain ⟨t,e⟩:=(show ∃ t,u = Value.int i t from r); cases e; rfl
 | str x=>obtain ⟨t,e⟩:=(show ∃ t,u = Value.str x t from r); cases e; rfl
 | byt b=>obtain ⟨t,e⟩:=(show ∃ t,u = Value.bytes b t from r); cases e; rfl
 | flt b=>obtain ⟨t,e⟩:=(show ∃ t,u = Value.float b t from r); cases e; rfl
 | ref a=>cases (show u = Value.ref a from r); rfl
 | ty n=>cases (show u = Value.type n from r); rfl
section
variable {P:Program} {w:World} {H H':Hp} {h h':Heap} {a C dx:Addr} {fs fs':List (Str×V)}
theorem ni (hok:HOk P w H h) (e:H a = some (.ins C dx fs)):∃ mA,ObjM h a dx C mA∧(∀ f,RelO (fs.lookup f) (mA f))∧PySem.Within mA (fs.map (·.1))∧fs.length≤1000∧H dx = some (.own a):=by
 obtain ⟨d,z,ne,ob,mA,n,r,q⟩:=(show ObjOk P w H h a (.ins C dx fs) from hok a _ e)
 exact ⟨mA,⟨ob,n,ne⟩,r,q,z,d⟩
end
structure Cls (K:PySem.W.Frag) (C:Addr):Prop where
 pg:PySem.W.plainGet K C Str.empty = true
 hd:PySem.W.hasDictIn K C = true
 po:PySem.W.plainOver K C = true
 sa:PySem.W.findIn K (.ref C) "__setattr__" = some (some (.builtin "object.__setattr__"))
theorem Cls.get {K:PySem.W.Frag} {C:Addr} (c:Cls K C) (f:Str):PySem.W.plainGet K C f = true:=c.pg
def NoAttr (K:PySem.W.Frag) (C:Addr) (f:Str):Prop:=PySem.W.findIn K (.ref C) f = some none
theorem NoAttr.taker {K:PySem.W.Frag} {C:Addr} {f:Str} (n:NoAttr K C f):PySem.W.takerIn K C f = some none:=by
 unfold PySem.W.takerIn
 rw [show PySem.W.findIn K (.ref C) f = some none from n]
 rfl
structure Meth (K:PySem.W.Frag) (C:Addr) (m:Str) (f:Addr):Prop where
 at_:PySem.W.findIn K (.ref C) m = some (some (.ref f))
 fn:PySem.W.isFn K (.ref f) = true
 kp:PySem.W.keepIn K (.ref f) = true
section
variable {X:Cx} {pins:List (Addr×Obj)} {σ : St} {H:Hp} {s:Shared} {a C dx:Addr} {fs:List (Str×V)} {f:Str} {v:V} {A:Around} {E:Value→Shared→Prop}
theorem ql {b:Bool} {Q:Value→Shared→Prop} (I:Inv X pins σ H s) (e:H a = some (.ins C dx fs)) (c:Cls X.K C) (n:NoAttr X.K C f) (l:fs.lookup f = some v)
  (h:∀ u s',Inv X pins σ H s'→RelV v u→Q u s'):wpAny (model X.prog X.w) A (getAttr (.ref a) f b) Q E s:=by
 obtain ⟨mA,O,r,_,_,_⟩:=ni I.hok e
 obtain ⟨u,hu,ru⟩:=RelO.some_of (v:=v) (o:=mA f) (by rw [←l]; exact r f)
 exact Ca I.kIn O (c.get f) c.hd n hu (tz ru) (h u _ (I.tok _) ru)
theorem jv {m:Str} {g:Addr} {pl:Sem Bool} {Q:Value×List Value→Shared→Prop} (I:Inv X pins σ H s) (e:H a = some (.ins C dx fs)) (c:Cls X.K C) (k:Meth X.K C m g) (l:fs.lookup m = none)
  (h:Q (.ref g,[.ref a]) s):wpAny (model X.prog X.w) A (getMethod (.ref a) m pl) Q E s:=by
 obtain ⟨mA,O,r,_,_,_⟩:=ni I.hok e
 have hn:mA m = none:=RelO.none_of (by rw [←l]; exact r m)
 exact v7 I.kIn O (c.get m) k.at_ k.fn hn h
theorem qr {y:V} {u:Value} {Q:Unit→Shared→Prop} (I:Inv X pins σ H s) (e:H a = some (.ins C dx fs)) (c:Cls X.K C) (n:NoAttr X.K C f) (hl:fs.length < 1000) (ry:RelV y u)
  (h:∀ s',Inv X pins σ (upd H a (.ins C dx (putF f y fs))) s'→Q () s'):wpAny (model X.prog X.w) A (setAttr (.ref a) f u) Q E s:=by
 obtain ⟨mA,O,r,wi,_,ho⟩:=ni I.hok e
 have hz:(fs.map (·.1)).length≤sizeLine:=by rw [List.length_map,sizeLine_eq]; omega
 refine BO I.kIn O c.sa c.po n.taker c.hd wi hz fun h' O' sb=>h _ ?_
 have hd:∃ o,h'.get? dx = some o:=let ⟨o,_,_,e',_⟩:=O'.ns; ⟨o,e'⟩
 refine I.write (x:=a) (e:=dx) (by rw [e]; exact True.intro) (.inr ho) (fun b q hb z=>(sb.2 b hb).trans z) hd ?_
 refine ⟨by rw [av O.ne]; exact ho,?_,O.ne,O'.obj,_,O'.ns,fun g=>?_,fun g hg=>?_⟩
 ·have:=iP f y fs; omega
 ·show RelO ((putF f y fs).lookup g) (if g = f then some u else mA g)
  rw [io]
  by_cases q:g = f
  ·rw [if_pos q,if_pos q]; exact ry
  ·rw [if_neg q,if_neg q]; exact r g
 ·by_cases q:g = f
  ·rw [q]; exact (iZ f y fs).1
  ·refine (iZ f y fs).2 g (wi g fun z=>hg ?_)
   show (if g = f then some u else mA g) = none
   rw [if_neg q]; exact z
theorem Inv.made (I:Inv X pins σ H s):Inv X pins σ (upd (upd H s.heap.objs.size (.own (s.heap.objs.size + 1))) (s.heap.objs.size + 1) (.ins C s.heap.objs.size []))
  { s with heap:=(s.heap.push PySem.W.emptyDict).push (PySem.W.instObj C s.heap.objs.size) }:=by
 have e1:(s.heap.push PySem.W.emptyDict).get? s.heap.objs.size = some PySem.W.emptyDict:=Heap.get?_push_size s.heap rfl
 have e2:((s.heap.push PySem.W.emptyDict).push (PySem.W.instObj C s.heap.objs.size)).get? (s.heap.objs.size + 1) = some (PySem.W.instObj C s.heap.objs.size):=by
  have:=Heap.get?_push_size (s.heap.push PySem.W.emptyDict) (o:=PySem.W.instObj C s.heap.objs.size) rfl
  rwa [Heap.size_push] at this
 have e3:(s.heap.push PySem.W.emptyDict).Ns s.heap.objs.size (fun _=>none):=⟨PySem.W.emptyDict,#[],_,e1,rfl,(fun e he=>absurd he (by simp)),fun _=>rfl⟩
 have I1:=I.laid (a:=s.heap.objs.size) (o:=.own (s.heap.objs.size + 1)) (h':=s.heap.push PySem.W.emptyDict) (t':=s.toks) (fun b u q=>Heap.get?_push_of_some _ q) (Nat.le_refl _) ⟨_,e1⟩
 refine I1.laid (a:=s.heap.objs.size + 1) (o:=.ins C s.heap.objs.size []) (t':=s.toks) (fun b u q=>Heap.get?_push_of_some _ q) (Nat.le_of_eq (Heap.size_push _ _)) ?_
 have ne:s.heap.objs.size≠s.heap.objs.size + 1:=Nat.ne_of_lt (Nat.lt_succ_self _)
 refine ⟨by rw [av ne,aC],Nat.zero_le _,ne,e2,fun _=>none,(Heap.Ns1.of_empty e3).at fun o q=>Heap.get?_push_of_some _ q,fun _=>True.intro,fun y hy=>absurd rfl hy⟩
theorem y6 {prog:Program} {w:World} {env:Env} {e:Expr} {f:Str} {pos:Pos} {s:Shared} {Q:Value→Shared→Prop} (hb:attributeBase e f env (eval e env) = eval e env)
  (h:wpAny (model prog w) A (eval e env) (fun o s₁=>wpAny (model prog w) A (getAttr o f true) Q E s₁) E s):wpAny (model prog w) A (eval (.Attribute e f pos) env) Q E s :=
 Attribute_any_ h (by rw [arm_eval_Attribute,hb])
end
def tFld (K:PySem.W.Frag) (ta:TE) (f:Str):TE:=fun σ H Q=>ta σ H fun x H1=>∃ a C dx fs v,x = .ref a∧H1 a = some (.ins C dx fs)∧Cls K C∧NoAttr K C f∧fs.lookup f = some v∧Q v H1
def sFld (K:PySem.W.Frag) (ta tv:TE) (f:Str):TS:=fun D σ H=>tv σ H fun y H1=>ta σ H1 fun x H2=>∃ a C dx fs,x = .ref a∧H2 a = some (.ins C dx fs)∧Cls K C∧NoAttr K C f∧fs.length < 1000 ∧
 D.nx σ (upd H2 a (.ins C dx (putF f y fs)))
section
variable {X:Cx} {o e value:Expr} {f:Str} {pos pos' tpos:Pos} {ta tv:TE}
theorem FU (he:PE X e ta) (hb:attributeBase e f X.env (eval e X.env) = eval e X.env):PE X (.Attribute e f pos) (tFld X.K ta f):=by
 intro pins s σ H Q I h
 refine y6 hb (thn (he pins s σ H _ I h) fun u s1 ⟨x,H1,I1,rx,a,C,dx,fs,v,ex,ea,c,n,l,q⟩=>?_)
 subst ex
 obtain rfl:u = Value.ref a:=rx
 exact ql I1 ea c n l fun u' s2 I2 ru=>⟨v,H1,I2,ru,q⟩
theorem Dw (ha:PE X o ta) (hv:PE X value tv) (hs:swapsWith value (some (.Attribute o f pos')) pos.line X.env = pure false):PS X (.Assign [.Attribute o f pos'] value pos) (sFld X.K ta tv f):=by
 intro pins s σ H D I h
 refine plainObj_wpAny_Assign_Attribute (thn (hv pins s σ H _ I h) fun u s1 ⟨y,H1,I1,ry,q⟩=>thn (ha pins s1 σ H1 _ I1 q) fun ov s2 ⟨x,H2,I2,rx,a,C,dx,fs,ex,ea,c,n,l,q2⟩=>?_) hs
 subst ex
 obtain rfl:ov = Value.ref a:=rx
 exact qr I2 ea c n l ry fun s3 I3=>⟨σ,_,I3,q2⟩
end
structure Room (k:Nat) (A:Around):Prop where
 hd:A.handled = none
 dp:A.depth + 3 * k + 5 < recursionLimit
 un:A.units + 16 * k + 200 < cLine
 gd:A.guards = some []
theorem Room.mono {j k:Nat} {A:Around} (r:Room k A) (h:j≤k):Room j A:=⟨r.hd,by have:=r.dp; omega,by have:=r.un; omega,r.gd⟩
theorem Room.deeper {k:Nat} {A:Around} (r:Room (k + 1) A) (env:Env):Room k (A.deeper env) :=
 ⟨r.hd,by have:=r.dp; show A.depth + 1 + 3 * k + 5 < _; omega,by have:=r.un; show A.units + 3 + 16 * k + 200 < _; omega,r.gd⟩
theorem pI {A:Around} {C:Addr} {us:List Value} {kw:List (Str×Value)}:(A.under (.builtin "type.__call__" ⟨.ref C :: us,kw⟩)).depth = A.depth + 1:=by
 first | rfl | simp [Around.under,Code.weight,Code.isCreation,Code.isGuard,Code.isCaller,Code.frames,Code.isFrame,guardIds]
theorem qj {A:Around} {C:Addr} {us:List Value} {kw:List (Str×Value)}:(A.under (.builtin "type.__call__" ⟨.ref C :: us,kw⟩)).units = A.units + 1:=by
 first | rfl | simp [Around.under,Code.cUnits,Code.frames,Code.isFrame]
theorem nI {A:Around} {C:Addr} {us:List Value} {kw:List (Str×Value)}:(A.under (.builtin "type.__call__" ⟨.ref C :: us,kw⟩)).guards = A.guards:=by
 cases h:A.guards <;> first | (simp [Around.under,Code.guards,Code.isGuard,guardIds,pushGuards,h]; done) | (show pushGuards _ _ = _; rw [h]; rfl)
theorem Room.make {k:Nat} {A:Around} (r:Room (k + 1) A) (C:Addr) (us:List Value) (kw:List (Str×Value)):Room k (A.under (.builtin "type.__call__" ⟨.ref C :: us,kw⟩)) :=
 ⟨r.hd,by have:=r.dp; rw [pI]; omega,by have:=r.un; rw [qj]; omega,by rw [nI]; exact r.gd⟩
theorem Room.depth {k:Nat} {A:Around} (r:Room k A):A.depth < recursionLimit:=by have:=r.dp; omega
theorem Room.units {k:Nat} {A:Around} (r:Room k A):A.units + 64 < cLine:=by have:=r.un; omega
def tNil:TA:=fun _ H Q=>Q [] H
def JK (ta:TE) (tr:TA):TA:=fun σ H Q=>ta σ H fun x H1=>tr σ H1 fun xs H2=>Q (x :: xs) H2
section
variable {X:Cx} {e:Expr} {es:List Expr} {te:TE} {t:TA} {pos:Pos}
theorem yV:PA X [] tNil:=fun _ _ _ _ H Q I h=>Calls.spliced_nil ⟨[],H,I,.nil,h⟩
theorem mj (ha:PE X e te) (hr:PA X es t) (hs:starEach (e :: es) X.env = (false,eval e X.env) :: starEach es X.env:=by rfl):PA X (e :: es) (JK te t):=by
 intro pos pins s σ H Q I h
 rw [hs]
 show wpAny _ _ (spliced ((false,eval e X.env) :: backTo pos (starEach es X.env))) _ _ s
 refine Calls.spliced_cons (thn (ha pins s σ H _ I h) fun u s1 ⟨x,H1,I1,r1,q1⟩=>?_)
 exact thn (hr pos pins s1 σ H1 _ I1 q1) fun us s2 ⟨xs,H2,I2,r2,q2⟩=>⟨x :: xs,H2,I2,.cons r1 r2,q2⟩
def tTup (t:TA):TE:=fun σ H Q=>t σ H fun xs H1=>xs.length≤sizeLine∧∀ p,H1 p = none→Q (.ref p) (upd H1 p (.tup xs))
def tLst (t:TA):TE:=fun σ H Q=>t σ H fun xs H1=>xs.length≤sizeLine∧∀ p,H1 p = none→Q (.ref p) (upd H1 p (.lst xs))
theorem DR {x1} (h:PA X es t):PE X (.Tuple es x1 pos) (tTup t):=by
 intro pins s σ H Q I hq
 refine wpAny_Tuple_spliced (thn (h pos pins s σ H _ I hq) fun us s1 ⟨xs,H1,I1,r,z,q⟩=>⟨by rw [←r.length]; exact z,?_⟩)
 have hf:H1 s1.heap.objs.size = none:=I1.hok.fresh (Nat.le_refl _)
 refine ⟨.ref s1.heap.objs.size,upd H1 s1.heap.objs.size (.tup xs),I1.laid (t':=s1.toks) (fun b u e=>Heap.get?_push_of_some _ e) (Nat.le_refl _) ?_,rfl,q _ hf⟩
 exact ⟨z,us,r,⟨_,Heap.get?_push_size _ rfl,rfl,rfl,_,rfl⟩⟩
theorem Gu (h:PA X es t):PE X (.List es pos) (tLst t):=by
 intro pins s σ H Q I hq
 refine wpAny_List_spliced (thn (h pos pins s σ H _ I hq) fun us s1 ⟨xs,H1,I1,r,z,q⟩=>⟨by rw [←r.length]; exact z,?_⟩)
 have hf:H1 s1.heap.objs.size = none:=I1.hok.fresh (Nat.le_refl _)
 refine ⟨.ref s1.heap.objs.size,upd H1 s1.heap.objs.size (.lst xs),I1.laid (t':=s1.toks) (fun b u e=>Heap.get?_push_of_some _ e) (Nat.le_refl _) ?_,rfl,q _ hf⟩
 exact ⟨z,us,0,r,Heap.get?_push_size _ rfl⟩
end
abbrev Sp:=List V→Hp→VK→XK→Prop
abbrev CXT:=List Env→Hp→Shared→XK→Value→Shared→Prop
structure Env0 (P:Program) (w:World) (K:PySem.W.Frag) (mg:Str→Option Value) (base:Heap) (A:Around) (outer:List Env) (s:Shared) (H:Hp):Prop where
 frames:A.frames = some outer
 mod:Mod K mg base
 bs:∀ b o,base.get? b = some o→s.heap.get? b = some o∧H b = none
 bsz:base.objs.size≤s.heap.objs.size
 funs:s.heap.FunFrames base outer
 frf:∀ b∈frs outer,H b = none
 hok:HOk P w H s.heap
 bare:AllBare s.gens
def CE (outer:List Env) (P:Program) (w:World) (H:Hp) (s:Shared) (Q:VK) (u:Value) (s':Shared):Prop :=
 ∃ v H',s'.os = s.os∧AllBare s'.gens∧Un (frs outer) [] H H' s.heap s'.heap∧HOk P w H' s'.heap∧RelV v u∧Q v H'
def CR (CX:CXT) (outer:List Env) (P:Program) (w:World) (H:Hp) (s:Shared) (Q:VK) (E:XK) (r:Result) (s':Shared):Prop :=
 match r with
 | .ok (.ret u)=>CE outer P w H s Q u s'
 | .ok _=>False
 | .error e=>CX outer H s E e s'
structure FnOk (P:Program) (w:World) (K:PySem.W.Frag) (mg:Str→Option Value) (base:Heap) (CX:CXT) (k:Nat) (f:Addr) (fd:FuncData) (ps:List Str) (sp:Sp):Prop where
 len:∀ vs H Q E,sp vs H Q E→vs.length = ps.length
 run:∀ (A:Around) (outer:List Env) (s:Shared) (H:Hp) (args:Args) (us:List Value) (vs:List V) (Q:VK) (E:XK),Room k A→Env0 P w K mg base A outer s H→BindsTo s fd args (ps.zip us)→Vals vs us→sp vs H Q E →
  codeAny (model P w) A (.call (.ref f) args) (CR CX outer P w H s Q E) s
theorem Env0.make {P:Program} {w:World} {K:PySem.W.Frag} {mg:Str→Option Value} {base:Heap} {A:Around} {outer:List Env} {s:Shared} {H:Hp} (e:Env0 P w K mg base A outer s H) (C:Addr) (us:List Value) (kw:List (Str×Value)) :
  Env0 P w K mg base (A.under (.builtin "type.__call__" ⟨.ref C :: us,kw⟩)) outer s H:=⟨by first | exact e.frames | (simpa [Around.under,Code.envs,Code.isFrame,pushEnvs] using e.frames),e.mod,e.bs,e.bsz,e.funs,e.frf,e.hok,e.bare⟩
section
variable {X:Cx} {pins:List (Addr×Obj)} {σ : St} {H:Hp} {s s':Shared}
theorem Inv.env0 (I:Inv X pins σ H s):Env0 X.prog X.w X.K X.mg X.base X.A X.stack s H :=
 ⟨I.ok.frames,I.ok.mod,I.bs,Nat.le_trans I.ok.bsz I.sz,I.stack,I.stkFree,I.hok,I.bare⟩
theorem Inv.after {Q:VK} {u:Value} (I:Inv X pins σ H s) (h:CE X.stack X.prog X.w H s Q u s'):EP X pins σ Q u s':=by
 obtain ⟨v,H',os,bare,un,hok,r,q⟩:=h
 obtain ⟨hh,g,d,t,os'⟩:=s'
 obtain rfl:os' = s.os:=os
 exact ⟨v,H',I.call (h':=hh) (g':=g) (d':=d) (t':=t) (ch:=[]) un hok bare (fun b z=>absurd z (by simp)),r,q⟩
end
def Fz (sp:Sp) (dvs:List V) (E:XK) (t:TA):TE:=fun σ H Q=>t σ H fun vs H1=>sp (vs++dvs) H1 Q E
def BJ (C:Addr) (m:Str) (sp:Sp) (dvs:List V) (E:XK) (ta:TE) (t:TA):TE:=fun σ H Q=>ta σ H fun x H1=>∃ a dx fs,x = .ref a∧H1 a = some (.ins C dx fs)∧fs.lookup m = none ∧
 t σ H1 fun vs H2=>sp (x :: (vs++dvs)) H2 Q E
def Gf (C:Addr) (sp:Sp) (dvs:List V) (E:XK) (t:TA):TE:=fun σ H Q=>t σ H fun vs H1=>∀ x dx,H1 x = none→H1 dx = none→dx≠x →
 sp (.ref x :: (vs++dvs)) (upd (upd H1 dx (.own x)) x (.ins C dx [])) (fun v H2=>v = .non∧Q (.ref x) H2) E
def Binds (K:PySem.W.Frag) (fd:FuncData) (ps:List Str) (ds:List Value):Prop :=
 ∀ (s:Shared) (us:List Value),K.In s.heap→(us++ds).length = ps.length→BindsTo s fd ⟨us,[]⟩ (ps.zip (us++ds))
theorem Binds.all {K:PySem.W.Frag} {fd:FuncData} {ps:List Str} (h:∀ us:List Value,us.length = ps.length→bindArgs fd ⟨us,[]⟩ = pure (ps.zip us)):Binds K fd ps []:=fun s us _ hl=>by
 rw [List.append_nil] at hl ⊢
 exact .of_eq (h us hl)
def gG (CX:CXT) (X:Cx) (E:XK):Prop:=∀ (pins:List (Addr×Obj)) (σ : St) (H:Hp) (s:Shared) (e:Value) (s':Shared),Inv X pins σ H s→CX X.stack H s E e s'→X.xe e s'
section
variable {X:Cx} {CX:CXT} {k:Nat} {f C:Addr} {fd:FuncData} {ps:List Str} {sp:Sp} {dvs:List V} {ds:List Value} {E:XK} {x m:Str} {p pos apos:Pos} {e o:Expr} {es:List Expr} {ta:TE} {t:TA}
theorem tW {pins:List (Addr×Obj)} {σ : St} {H:Hp} {s:Shared} {Q:VK} {us:List Value} {vs:List V} (F:FnOk X.prog X.w X.K X.mg X.base CX k f fd ps sp) (hr:Room k X.A) (hb:Binds X.K fd ps ds) (hd:Vals dvs ds) (hx:gG CX X E)
  (I:Inv X pins σ H s) (r:Vals vs us) (h:sp (vs++dvs) H Q E):wpAny (model X.prog X.w) X.A (call (.ref f) us) (EP X pins σ Q) X.xe s:=by
 have r2:Vals (vs++dvs) (us++ds):=r.append hd
 have hl:(us++ds).length = ps.length:=by rw [←r2.length]; exact F.len _ _ _ _ h
 refine wpAny_call (codeAny_mono (F.run X.A X.stack s H ⟨us,[]⟩ (us++ds) (vs++dvs) Q E hr I.env0 (hb s us I.kIn hl) r2 h) fun r s' hq=>?_)
 cases r with
 | error e=>exact hx pins σ H s e s' I hq
 | ok fl =>
  cases fl with
  | ret u=>exact I.after hq
  | next=>exact False.elim hq
  | brk=>exact False.elim hq
  | cont=>exact False.elim hq
theorem CC (F:FnOk X.prog X.w X.K X.mg X.base CX k f fd ps sp) (hr:Room k X.A) (hg:Gl X x) (hm:X.mg x = some (.ref f)) (hk:PySem.W.keepIn X.K (.ref f) = true) (hb:Binds X.K fd ps ds) (hd:Vals dvs ds) (hx:gG CX X E)
  (ha:PA X (e :: es) t) (hdb:(x == ("__debug__" : Str)) = false:=by decide) (he:starEach (e :: es) X.env = (false,eval e X.env) :: starEach es X.env:=by rfl) (hpl:(backTo pos (starEach es X.env)).any (·.1) = false:=by rfl) :
  PE X (.Call (.Name x p) (e :: es) [] pos) (Fz sp dvs E t):=by
 intro pins s σ H Q I h
 refine wpAny_Call_Name_kw (ng I hg hm ?_ hdb)
 refine PySem.W.callWith_K (h₀:=X.base) I.ok.mod.kin hk (thn (ha pos pins s σ H _ I h) fun us s1 ⟨vs,H1,I1,r,q⟩=>⟨I1.kIn,?_⟩) he hpl
 exact tW F hr hb hd hx I1 r q
theorem Ak {pl:Sem Bool} (he:PE X o ta) (c:Cls X.K C) (hm:Meth X.K C m f) (F:FnOk X.prog X.w X.K X.mg X.base CX k f fd ps sp) (hr:Room k X.A) (hb:Binds X.K fd ps ds) (hd:Vals dvs ds) (hx:gG CX X E) (ha:PA X (e :: es) t)
  (hst:starEach (e :: es) X.env = (false,eval e X.env) :: starEach es X.env:=by rfl) (hpl:(backTo pos (starEach es X.env)).any (·.1) = false:=by rfl)
  (ht:eval (.Call (.Attribute o m apos) (e :: es) [] pos) X.env = (do
   let ov ← eval o X.env
   standAt apos.atName
   let (f,first) ← holding [ov] (getMethod ov m pl)
   callWith pos f first (backTo pos (starEach (e :: es) X.env)) (backToKw pos (keywordEach [] X.env))):=by rfl) :
  PE X (.Call (.Attribute o m apos) (e :: es) [] pos) (BJ C m sp dvs E ta t):=by
 intro pins s σ H Q I h
 refine PySem.W.methodCall_KW (pl:=pl) (thn (he pins s σ H _ I h) fun u s1 ⟨x,H1,I1,rx,a,dx,fs,ex,ea,l,q⟩=>?_) ht
 subst ex
 obtain rfl:u = Value.ref a:=rx
 refine jv I1 ea c hm l ?_
 refine PySem.W.callWith_K (first:=[.ref a]) (h₀:=X.base) I.ok.mod.kin hm.kp (thn (ha pos pins s1 σ H1 _ I1 q) fun us s2 ⟨vs,H2,I2,r,q2⟩=>⟨I2.kIn,?_⟩) hst hpl
 exact tW (us:=.ref a :: us) (vs:=.ref a :: vs) F hr hb hd hx I2 (.cons rfl r) q2
theorem xo {pl:Sem Bool} (he:PE X o ta) (c:Cls X.K C) (hm:Meth X.K C m f) (F:FnOk X.prog X.w X.K X.mg X.base CX k f fd ps sp) (hr:Room k X.A) (hb:Binds X.K fd ps ds) (hd:Vals dvs ds) (hx:gG CX X E)
  (ht:eval (.Call (.Attribute o m apos) [] [] pos) X.env = (do
   let ov ← eval o X.env
   standAt apos.atName
   let (f,first) ← holding [ov] (getMethod ov m pl)
   callWith pos f first (backTo pos (starEach [] X.env)) (backToKw pos (keywordEach [] X.env))):=by rfl) :
  PE X (.Call (.Attribute o m apos) [] [] pos) (BJ C m sp dvs E ta tNil):=by
 intro pins s σ H Q I h
 refine PySem.W.methodCall_KW (pl:=pl) (thn (he pins s σ H _ I h) fun u s1 ⟨x,H1,I1,rx,a,dx,fs,ex,ea,l,q⟩=>?_) ht
 subst ex
 obtain rfl:u = Value.ref a:=rx
 refine jv I1 ea c hm l ?_
 exact PySem.W.callWith_K0 (first:=[.ref a]) I1.kIn hm.kp (tW (us:=[.ref a]) (vs:=[.ref a]) F hr hb hd hx I1 (.cons rfl .nil) q)
structure Mk (K:PySem.W.Frag) (C f:Addr):Prop where
 makes:PySem.W.makesIn K C = true
 init:PySem.W.findIn K (.ref C) "__init__" = some (some (.ref f))
 fn:PySem.W.isFn K (.ref f) = true
 kp:PySem.W.keepIn K (.ref C) = true
theorem vQ {pins:List (Addr×Obj)} {σ : St} {H:Hp} {s:Shared} {Q:VK} {us:List Value} {vs:List V} (M:Mk X.K C f) (F:FnOk X.prog X.w X.K X.mg X.base CX k f fd ps sp) (hr:Room (k + 1) X.A) (hb:Binds X.K fd ps ds) (hd:Vals dvs ds)
  (hx:gG CX X E) (I:Inv X pins σ H s) (r:Vals vs us)
  (h:∀ x dx,H x = none→H dx = none→dx≠x→sp (.ref x :: (vs++dvs)) (upd (upd H dx (.own x)) x (.ins C dx [])) (fun v H2=>v = .non∧Q (.ref x) H2) E) :
  wpAny (model X.prog X.w) X.A (call (.ref C) us) (EP X pins σ Q) X.xe s:=by
 have hq:=h (s.heap.objs.size + 1) s.heap.objs.size (I.hok.fresh (Nat.le_succ _)) (I.hok.fresh (Nat.le_refl _)) (Nat.ne_of_lt (Nat.lt_succ_self _))
 have I2:=Inv.made (C:=C) I
 have r2:Vals (V.ref (s.heap.objs.size + 1) :: (vs++dvs)) (Value.ref (s.heap.objs.size + 1) :: (us++ds)):=.cons rfl (r.append hd)
 have hl:(Value.ref (s.heap.objs.size + 1) :: us++ds).length = ps.length:=by
  have e:=r2.length
  rw [F.len _ _ _ _ hq] at e
  exact e.symm
 refine wpAny_call (xY (f:=f) I.kIn M.makes M.init (beq_iff_eq.mp M.fn) (codeAny_mono (F.run _ X.stack _ _ ⟨Value.ref (s.heap.objs.size + 1) :: us,[]⟩ (Value.ref (s.heap.objs.size + 1) :: (us++ds)) _ _ E (hr.make C us [])
  (I2.env0.make C us []) (hb _ (Value.ref (s.heap.objs.size + 1) :: us) I2.kIn hl) r2 hq) fun r s' hq'=>?_))
 cases r with
 | error e=>exact hx pins σ _ _ e s' I2 hq'
 | ok fl =>
  cases fl with
  | ret u =>
   obtain ⟨v,H',I3,rv,ev,q3⟩:=I2.after hq'
   subst ev
   exact ⟨rv,⟨V.ref (s.heap.objs.size + 1),H',I3,rfl,q3⟩⟩
  | next=>exact False.elim hq'
  | brk=>exact False.elim hq'
  | cont=>exact False.elim hq'
theorem y8 (M:Mk X.K C f) (F:FnOk X.prog X.w X.K X.mg X.base CX k f fd ps sp) (hr:Room (k + 1) X.A) (hg:Gl X x) (hm:X.mg x = some (.ref C)) (hb:Binds X.K fd ps ds) (hd:Vals dvs ds) (hx:gG CX X E)
  (ha:PA X (e :: es) t) (hdb:(x == ("__debug__" : Str)) = false:=by decide) (he:starEach (e :: es) X.env = (false,eval e X.env) :: starEach es X.env:=by rfl) (hpl:(backTo pos (starEach es X.env)).any (·.1) = false:=by rfl) :
  PE X (.Call (.Name x p) (e :: es) [] pos) (Gf C sp dvs E t):=by
 intro pins s σ H Q I h
 refine wpAny_Call_Name_kw (ng I hg hm ?_ hdb)
 refine PySem.W.callWith_K (h₀:=X.base) I.ok.mod.kin M.kp (thn (ha pos pins s σ H _ I h) fun us s1 ⟨vs,H1,I1,r,q⟩=>⟨I1.kIn,?_⟩) he hpl
 exact vQ M F hr hb hd hx I1 r q
end
structure ak (N P:List Str) (sc:Scope):Prop where
 kind:sc.kind = .function
 co:sc.isCoroutine = false
 gen:sc.isGenerator = false
 nd:N.Nodup
 pre:N.take P.length = P
 par:∀ x∈P,sc.names.lookup x = some .local∨sc.names.lookup x = some .cell
 nofree:∀ y∈sc.names,y.2≠.free
theorem l6 {kindOf:Str→Option NameKind} {x:Str}:∀ {binds:List (Str×Value)} {m:Str→Option Value},(∀ v,(x,v)∉binds)→bindL kindOf binds m x = m x
 | [],_,_=>rfl
 | (n,v) :: r,m,h=>by
  unfold bindL
  rw [l6 fun w hw=>h w (List.mem_cons_of_mem _ hw)]
  split
  ·have:x≠n:=by rintro rfl; exact h v List.mem_cons_self
   simp [this]
  ·rfl
theorem lV {kindOf:Str→Option NameKind} {x:Str}:∀ {binds:List (Str×Value)} {m:Str→Option Value},(∀ v,(x,v)∉binds)→bindC kindOf binds m x = m x
 | [],_,_=>rfl
 | (n,v) :: r,m,h=>by
  unfold bindC
  rw [lV fun w hw=>h w (List.mem_cons_of_mem _ hw)]
  split
  ·rfl
  ·have:x≠n:=by rintro rfl; exact h v List.mem_cons_self
   simp [this]
theorem k9 {kindOf:Str→Option NameKind} {x:Str} {v:Value}:∀ {P:List Str} {vs:List Value} {i:Nat} {m:Str→Option Value},P.Nodup→P[i]? = some x→vs[i]? = some v→kindOf x = some .local →
  bindL kindOf (P.zip vs) m x = some v
 | [],_,_,_,_,h,_,_=>by simp at h
 | _ :: _,[],_,_,_,_,h,_=>by simp at h
 | p :: P,w :: vs,0,m,nd,h1,h2,hk=>by
  simp at h1 h2; subst h1; subst h2
  show bindL kindOf ((p,w) :: P.zip vs) m p = _
  unfold bindL
  rw [l6 fun v hv=>(List.nodup_cons.mp nd).1 (List.of_mem_zip hv).1,if_pos hk]
  simp
 | p :: P,w :: vs,i + 1,m,nd,h1,h2,hk=>by
  show bindL kindOf ((p,w) :: P.zip vs) m x = _
  unfold bindL
  exact k9 (i:=i) (List.nodup_cons.mp nd).2 (by simpa using h1) (by simpa using h2) hk
theorem lR {kindOf:Str→Option NameKind} {x:Str} {v:Value}:∀ {P:List Str} {vs:List Value} {i:Nat} {m:Str→Option Value},P.Nodup→P[i]? = some x→vs[i]? = some v→kindOf x≠some .local →
  bindC kindOf (P.zip vs) m x = some v
 | [],_,_,_,_,h,_,_=>by simp at h
 | _ :: _,[],_,_,_,_,h,_=>by simp at h
 | p :: P,w :: vs,0,m,nd,h1,h2,hk=>by
  simp at h1 h2; subst h1; subst h2
  show bindC kindOf ((p,w) :: P.zip vs) m p = _
  unfold bindC
  rw [lV fun v hv=>(List.nodup_cons.mp nd).1 (List.of_mem_zip hv).1,if_neg hk]
  simp
 | p :: P,w :: vs,i + 1,m,nd,h1,h2,hk=>by
  show bindC kindOf ((p,w) :: P.zip vs) m x = _
  unfold bindC
  exact lR (i:=i) (List.nodup_cons.mp nd).2 (by simpa using h1) (by simpa using h2) hk
def start (N:List Str) (vs:List V):St:=vs.map some++List.replicate (N.length - vs.length) none
def cxOf (CX:CXT) (P:Program) (w:World) (K:PySem.W.Frag) (mg:Str→Option Value) (base:Heap) (N:List Str) (qual:Str) (scope:Scope) (f:Addr) (cd:Value) (A:Around) (outer:List Env) (s:Shared) (H:Hp) (E:XK):Cx where
 prog:=P
 w:=w
 K:=K
 mg:=mg
 base:=base
 A:=A.deeper (envOfC qual scope s.heap.objs.size f cd)
 N:=N
 s₀:=s
 H₀:=H
 env:=envOfC qual scope s.heap.objs.size f cd
 outer:=outer
 stack:=envOfC qual scope s.heap.objs.size f cd :: outer
 ex:=[]
 calm:=true
 fn:=fun _=>true
 pn:=[]
 xe:=fun e s'=>wpAny (model P w) (A.deeper (envOfC qual scope s.heap.objs.size f cd)) (leaving (envOfC qual scope s.heap.objs.size f cd) e) (fun _ s''=>CX outer H s E e s'') (fun e' s''=>CX outer H s E e' s'') s'
theorem pj {sc:Scope} {n:Nat} {x:Str} (h:sc.names.lookup x = some .cell):∃ c,(cellsFrom n sc.names []).lookup x = some c:=by
 have q:=PySem.W.cellsFrom_some sc.names n [] (.inl h)
 exact Option.isSome_iff_exists.mp q
theorem sK {CX:CXT} {P:Program} {w:World} {K:PySem.W.Frag} {mg:Str→Option Value} {base:Heap} {N ps:List Str} {qual:Str} {scope:Scope} {f:Addr} {cd:Value} {A:Around} {outer:List Env} {s s1:Shared} {H:Hp} {E:XK} {us:List Value} {vs:List V}
  (S:ak N ps scope) (hd:A.handled = none) (e0:Env0 P w K mg base A outer s H) (hl:vs.length = ps.length) (r:Vals vs us)
  (x:InCallC s s.heap.objs.size (bindL (envOfC qual scope s.heap.objs.size f cd).kindOf (ps.zip us) fun _=>none) (cellsFrom (s.heap.objs.size + 1) scope.names []) (bindC (envOfC qual scope s.heap.objs.size f cd).kindOf (ps.zip us) fun _=>none) s1) :
  Inv (cxOf CX P w K mg base N qual scope f cd A outer s H E) [] (start N vs) H s1:=by
 have hpl:ps.length≤N.length:=by have:=congrArg List.length S.pre; rw [List.length_take] at this; omega
 obtain ⟨h1,tk,rfl,hk⟩:=x.done
 have noA:∀ b:Addr,b∉(cxOf CX P w K mg base N qual scope f cd A outer s H E).ex:=fun b z=>absurd (show b∈([]:List Addr) from z) (by simp)
 refine ⟨⟨e0.mod,S.kind,rfl,rfl,Nat.le_refl _,fun y z c h1 h2=>?_,fun y hy=>?_,fun y c _ h=>?_,fun _=>hd,Around.frames_deeper e0.frames,.inr ⟨rfl,rfl⟩,fun b z=>absurd z (noA b),e0.bs,e0.bsz,fun b _ _=>noA b,fun b z=>absurd z (noA b),e0.funs,e0.frf⟩,
  rfl,e0.bare,Un.kept hk,⟨_,x.toInCall.ns,fun i y v h1 h2 h3=>?_⟩,fun y c h=>⟨_,x.cell y c h⟩,e0.hok.fresh (Nat.le_refl _),fun y c h=>?_,fun p hp=>absurd (show p∈([]:List (Addr×Obj)) from hp) (by simp),e0.hok.kept hk,?_⟩
 ·exact name_of_addr x.apart (PySem.mem_of_lookup h1) (PySem.mem_of_lookup h2)
 ·have hy:scope.names.lookup y = some .cell∨scope.names.lookup y = some .free:=hy
  rcases hy with hy | hy
  ·exact pj hy
  ·exact absurd rfl (S.nofree _ (PySem.mem_of_lookup hy))
 ·exact Nat.le_of_lt (x.above y c (PySem.mem_of_lookup h))
 ·have hi:i < vs.length:=by
   unfold start at h2
   by_cases hi:i < vs.length
   ·exact hi
   ·rw [List.getElem?_append_right (by simpa using hi)] at h2
    rw [List.getElem?_replicate] at h2
    split at h2 <;> cases h2
  have ha:vs[i]? = some v:=by
   unfold start at h2
   rw [List.getElem?_append_left (by simpa using hi),List.getElem?_map] at h2
   cases e:vs[i]? with
   | none=>rw [e] at h2; cases h2
   | some a=>rw [e] at h2; cases h2; rfl
  obtain ⟨u,hu,rv⟩:=r.get ha
  have hp:ps[i]? = some y:=by
   rw [←S.pre,List.getElem?_take_of_lt (by omega)]; exact h1
  have ndP:ps.Nodup:=by rw [←S.pre]; exact S.nd.sublist (List.take_sublist _ _)
  refine ⟨u,rv,?_⟩
  rcases S.par y (List.mem_of_getElem? hp) with k | k
  ·exact .inl ⟨k,k9 ndP hp hu k⟩
  ·obtain ⟨c,e⟩:=pj (n:=s.heap.objs.size + 1) k
   refine .inr ⟨.inl k,c,e,?_⟩
   have q:=x.cell y c e
   rw [lR ndP hp hu (by show scope.names.lookup y≠_; rw [k]; decide)] at q
   exact q
 ·exact e0.hok.fresh (Nat.le_of_lt (x.above y c (PySem.mem_of_lookup h)))
 ·unfold start
  show _ = N.length
  rw [List.length_append,List.length_map,List.length_replicate]
  omega
theorem Ky {CX:CXT} {P:Program} {w:World} {K:PySem.W.Frag} {mg:Str→Option Value} {base:Heap} {k:Nat} {f:Addr} {name qual:Str} {params:Arguments} {body:List Stmt} {scope:Scope} {dV kV doc pm cdv ct oc:Value} {an od:Option Addr}
  {osl:Array (Option Value)} {N ps:List Str} {sp:Sp} (lk:K.lookup f = some ⟨oc,od,.func (PySem.W.fnOf name qual params body scope dV kV doc pm an cdv ct),osl⟩) (hcd:PySem.W.codeIn K cdv qual = true) (S:ak N ps scope)
  (len:∀ vs H Q E,sp vs H Q E→vs.length = ps.length)
  (hbody:∀ (A:Around) (outer:List Env) (s:Shared) (H:Hp) (vs:List V) (Q:VK) (E:XK),Room k (A.deeper (envOfC qual scope s.heap.objs.size f cdv))→sp vs H Q E →
   ∃ t,PSs (cxOf CX P w K mg base N qual scope f cdv A outer s H E) body t∧t { nx:=fun _ H'=>Q .non H',rt:=Q } (start N vs) H) :
  FnOk P w K mg base CX (k + 1) f (PySem.W.fnOf name qual params body scope dV kV doc pm an cdv ct) ps sp:=by
 refine ⟨len,fun A outer s H args us vs Q E hr e0 hb r hsp=>?_⟩
 have hl:=len _ _ _ _ hsp
 have KX:K.In s.heap:=e0.mod.kin.keeps fun b o e=>(e0.bs b o e).1
 have lim:s.heap.NoLimit:=e0.mod.nolimit.keeps fun b o e=>(e0.bs b o e).1
 have hkind:∀ y∈ps.zip us,scope.names.lookup y.1 = some .local∨(scope.names.lookup y.1 = some .cell∧((cellsFrom (s.heap.objs.size + 1) scope.names []).lookup y.1).isSome = true):=fun ⟨n,v⟩ hy=>by
  rcases S.par n (List.of_mem_zip hy).1 with q | q
  ·exact .inl q
  ·exact .inr ⟨q,PySem.W.cellsFrom_some _ _ _ (.inl q)⟩
 refine codeAny_call_function hr.depth (KX _ _ lk) rfl S.co S.gen rfl (PySem.W.codeRec_of KX hcd) (hb _ _ _ _ ?_)
 refine wpAny_newFunctionEnv_cells S.kind hkind fun env he s1 x=>?_
 subst he
 refine ⟨lim.keeps x.toInCall.keep,codeAny_func ?_⟩
 obtain ⟨t,ht,hq⟩:=hbody A outer s H vs Q E (hr.deeper _) hsp
 have I:Inv (cxOf CX P w K mg base N qual scope f cdv A outer s H E) [] (start N vs) H s1:=sK S hr.hd e0 hl r x
 refine wpAny_mono (ht [] s1 (start N vs) H _ I hq) (fun fl s' hs=>?_) fun e s' hs=>hs
 have fin:∀ {σ':St} {H':Hp} {v:V} {u:Value},Inv (cxOf CX P w K mg base N qual scope f cdv A outer s H E) [] σ' H' s'→RelV v u→Q v H'→CE outer P w H s Q u s' :=
  fun {σ' H' v u} J rv q=>⟨v,H',J.os,J.bare,J.base,J.hok,rv,q⟩
 cases fl with
 | ret u =>
  obtain ⟨v,σ',H',J,rv,q⟩:=hs
  exact fin J rv q
 | next =>
  obtain ⟨σ',H',J,q⟩:=hs
  exact fin (v:=V.non) (u:=Value.none) J rfl q
 | brk =>
  obtain ⟨_,_,_,q⟩:=hs
  exact False.elim q
 | cont =>
  obtain ⟨_,_,_,q⟩:=hs
  exact False.elim q
section
variable {X:Cx} {x:Str} {p pos:Pos} {e:Expr} {es:List Expr} {t:TA} {id T:String} {r:List V→Hp→VK→Prop}
def tCB (r:List V→Hp→VK→Prop) (t:TA):TE:=fun σ H Q=>t σ H fun vs H1=>r vs H1 Q
theorem nW (hc:b9 X (.builtin id) r) (hg:Gl X x) (hm:X.mg x = none) (hv:bootBuiltins x = some (.builtin id)) (ha:PA X (e :: es) t) (hn:x ≠ "__name__" := by decide) (hdb:(x == ("__debug__" : Str)) = false:=by decide)
  (he:starEach (e :: es) X.env = (false,eval e X.env) :: starEach es X.env:=by rfl) (hpl:(backTo pos (starEach es X.env)).any (·.1) = false:=by rfl):PE X (.Call (.Name x p) (e :: es) [] pos) (tCB r t):=by
 intro pins s σ H Q I h
 refine wpAny_Call_Name_kw (gH I hg hm hv ?_ hn hdb)
 exact PyProof.Rows.callWith_builtin1 (thn (ha pos pins s σ H _ I h) fun us s1 ⟨vs,H1,I1,r1,q1⟩=>hc pins s1 σ H1 vs us Q I1 r1 q1) he hpl
theorem tm (hc:b9 X (.type T) r) (hg:Gl X x) (hm:X.mg x = none) (hv:bootBuiltins x = some (.type T)) (ha:PA X (e :: es) t) (hn:x ≠ "__name__" := by decide) (hdb:(x == ("__debug__" : Str)) = false:=by decide)
  (he:starEach (e :: es) X.env = (false,eval e X.env) :: starEach es X.env:=by rfl) (hpl:(backTo pos (starEach es X.env)).any (·.1) = false:=by rfl):PE X (.Call (.Name x p) (e :: es) [] pos) (tCB r t):=by
 intro pins s σ H Q I h
 refine wpAny_Call_Name_kw (gH I hg hm hv ?_ hn hdb)
 exact PyProof.Rows.callWith_type1 (thn (ha pos pins s σ H _ I h) fun us s1 ⟨vs,H1,I1,r1,q1⟩=>hc pins s1 σ H1 vs us Q I1 r1 q1) he hpl
end
end L2
namespace HT
open PySem PyProof.Rows
section
variable {prog:Program} {w:World} {A:Around} {E:Value→Shared→Prop} {s:Shared}
theorem cat_tup {t b:Addr} {vs ws:List Value} {Q:Value→Shared→Prop} (ht:IsTup s.heap t vs.toArray) (hb:IsTup s.heap b ws.toArray) (hv:vs≠[])
  (h1:ws = []→Q (.ref t) s) (h2:ws≠[]→Q (.ref s.heap.objs.size) { s with heap:=s.heap.push { cls:=.type "tuple",data:=.seq (vs++ws).toArray } })
  (hsz:vs.length + ws.length≤sizeLine):wpAny (model prog w) A (binaryOp .Add (.ref t) (.ref b)) Q E s:=by
 obtain ⟨⟨cls,dd,data,sl⟩,ho,hc,n,hd⟩:=id ht
 obtain ⟨⟨cls2,dd2,data2,sl2⟩,ho2,hc2,n2,hd2⟩:=id hb
 simp only at hc hd hc2 hd2
 subst hc hd hc2 hd2
 have e:vs.toArray++ws.toArray = (vs++ws).toArray:=by simp
 by_cases hw:ws = []
 ·exact concat_meets ⟨_,ho,rfl⟩ ⟨_,ho2,rfl⟩ noFill_tuple_add seq_tuple_add PySem.F.slot_tuple_add PySem.F.entry_tuple_add (PySem.F.args_tuple_add_2 _ _)
   (tuple_addW1 t b vs.toArray ws.toArray n n2 dd dd2 sl sl2 (by simpa using hv) (by simp [hw])) ⟨ho,ho2,h1 hw⟩
 ·refine concat_meets ⟨_,ho,rfl⟩ ⟨_,ho2,rfl⟩ noFill_tuple_add seq_tuple_add PySem.F.slot_tuple_add PySem.F.entry_tuple_add (PySem.F.args_tuple_add_2 _ _)
   (tuple_addW2 t b vs.toArray ws.toArray n n2 dd dd2 sl sl2 (by simpa using hv) (by simpa using hw) (by rw [List.size_toArray,List.size_toArray]; exact hsz)) ⟨ho,ho2,?_⟩
  rw [e]
  exact h2 hw
def sIx (n d:Nat):Option Int→Nat
 | none=>d
 | some v=>if v < 0 then (v + (n:Int)).toNat else min v.toNat n
theorem sIx_none (n d:Nat):sIx n d none = d:=rfl
theorem sIx_nat (n d k:Nat):sIx n d (some (k:Int)) = min k n:=by
 show (if (k:Int) < 0 then ((k:Int) + (n:Int)).toNat else min (k:Int).toNat n) = min k n
 rw [if_neg (by omega),Int.toNat_natCast]
theorem FB (n d:Nat) (hd:d≤n) (o:Option Int):sIx n d o≤n:=by
 cases o with
 | none=>exact hd
 | some v =>
  show (if v < 0 then (v + (n:Int)).toNat else min v.toNat n)≤n
  by_cases hv:v < 0
  ·rw [if_pos hv]; omega
  ·rw [if_neg hv]; exact Nat.min_le_right _ _
theorem tf (v:Int) (n d:Nat):(if v < 0 then max (v + (n:Int)) 0 else min v (n:Int)) = ((sIx n d (some v):Nat):Int):=by
 show (if v < 0 then max (v + (n:Int)) 0 else min v (n:Int)) = (((if v < 0 then (v + (n:Int)).toNat else min v.toNat n):Nat):Int)
 by_cases hv:v < 0
 ·simp only [if_pos hv]; omega
 ·simp only [if_neg hv]; omega
theorem qq (lo hi:Option Int) (n:Nat):Builtin.Slice.sliceAdjust lo hi 1 (n:Int) = (((sIx n 0 lo:Nat):Int),((sIx n n hi:Nat):Int)):=by
 have h1:¬ ((1:Int) < 0):=by omega
 unfold Builtin.Slice.sliceAdjust
 simp only [h1,if_false]
 refine Prod.ext ?_ ?_
 ·cases lo with
  | none=>rfl
  | some v=>exact tf v n 0
 ·cases hi with
  | none=>rfl
  | some v=>exact tf v n n
theorem qe (i j:Nat):Builtin.Slice.slicePlaces (i:Int) (j:Int) 1 = j - i:=by
 unfold Builtin.Slice.slicePlaces
 have h1:(1:Int) > 0:=by omega
 simp only [h1,if_true,Int.ediv_one]
 split <;> omega
theorem jp {v:Value} {o:Option Int} {Q:Option Int→Shared→Prop} (p:IsPart v o) (h:Q o s):wpAny (model prog w) A (Builtin.Slice.slicePartIndex v) Q E s:=by
 cases p with
 | none=>exact slicePart_none h
 | int i t=>exact slicePart_int h
theorem dl {sl:Addr} {vl vu:Value} {lo hi:Option Int} {n:Nat} {Q:Int×Int×Nat→Shared→Prop} (hs:s.heap.IsSliceOf sl vl vu .none) (pl:IsPart vl lo) (pu:IsPart vu hi)
  (h:Q (((sIx n 0 lo:Nat):Int),1,sIx n n hi - sIx n 0 lo) s):wpAny (model prog w) A (Builtin.Slice.sliceApplied (.ref sl) (pure (n:Int))) Q E s:=by
 obtain ⟨os,hos,hcs,hds⟩:=id hs
 unfold Builtin.Slice.sliceApplied Builtin.Slice.sliceFields
 refine wpAny_bind (wpAny_bind (wpAny_field hos hds (x:=vl) rfl (wpAny_bind (wpAny_field hos hds (x:=vu) rfl (wpAny_bind (wpAny_field hos hds (x:=.none) rfl (wpAny_pure ?_)))))))
 refine wpAny_bind (slicePart_none ?_)
 show wpAny _ _ (if ((1:Int) == 0) = true then _ else _) _ _ s
 rw [if_neg (by decide)]
 refine wpAny_bind (jp pl (wpAny_bind (jp pu (wpAny_bind (wpAny_pure ?_)))))
 show wpAny _ _ (match Builtin.Slice.sliceAdjust lo hi 1 (n:Int) with | (lo,hi)=>pure (lo,(1:Int),Builtin.Slice.slicePlaces lo hi 1)) _ _ s
 rw [qq lo hi n]
 show wpAny _ _ (pure (((sIx n 0 lo:Nat):Int),(1:Int),Builtin.Slice.slicePlaces ((sIx n 0 lo:Nat):Int) ((sIx n n hi:Nat):Int) 1)) _ _ s
 rw [qe]
 exact wpAny_pure h
theorem vY (xs:Array Value) (i k:Nat):((List.range k).filterMap fun (m:Nat)=>xs[((i:Int) + (m:Int) * 1).toNat]?).toArray = ((xs.toList.drop i).take k).toArray:=by
 have e:(fun (m:Nat)=>xs[((i:Int) + (m:Int) * 1).toNat]?) = fun m=>xs[i + m]?:=by
  funext m
  have:((i:Int) + (m:Int) * 1).toNat = i + m:=by omega
  rw [this]
 rw [e]
 have:=pick_run xs i k
 rw [List.filterMap_map] at this
 have e2:((fun x=>xs[x]?)∘fun x=>i + x) = fun m=>xs[i + m]?:=rfl
 rw [e2] at this
 rw [this]
theorem getItem_tuple_cut {t sl:Addr} {items:Array Value} {vl vu:Value} {lo hi:Option Int} {Q:Value→Shared→Prop} (ht:IsTup s.heap t items) (hs:s.heap.IsSliceOf sl vl vu .none) (pl:IsPart vl lo) (pu:IsPart vu hi)
  (hw:¬ (sIx items.size 0 lo = 0∧sIx items.size items.size hi = items.size))
  (h:Q (.ref s.heap.objs.size) { s with heap:=s.heap.push { cls:=.type "tuple",data:=.seq ((items.toList.drop (sIx items.size 0 lo)).take (sIx items.size items.size hi - sIx items.size 0 lo)).toArray } })
  (hsz:items.size≤sizeLine):wpAny (model prog w) A (getItem (.ref t) (.ref sl)) Q E s:=by
 have htake:sizeOk (.seq ((items.toList.drop (sIx items.size 0 lo)).take (sIx items.size items.size hi - sIx items.size 0 lo)).toArray):=by
  show ((items.toList.drop (sIx items.size 0 lo)).take (sIx items.size items.size hi - sIx items.size 0 lo)).toArray.size≤sizeLine
  rw [List.size_toArray,List.length_take,List.length_drop,Array.length_toList]
  omega
 have hj:sIx items.size items.size hi≤items.size:=FB _ _ (Nat.le_refl _) hi
 obtain ⟨os,hos,hcs,hds⟩:=id hs
 have hTs:s.TypeIs (.ref sl) "slice" := ⟨os,hos,hcs⟩
 unfold getItem
 try with_reducible refine wpAny_holding ?_
 first | refine wpAny_bind (wpAny_pure ?_) | skip
 refine wpAny_bind (wpAny_sequenceKey ht.typeIs (by decide) ?_)
 refine wpAny_bind (wpAny_callSpecial?_slot (name:=Str.ofString "__getitem__") ht.typeIs PyProof.Rows.slot_tuple_getitem
  (wpAny_call_entry PyProof.Rows.slot_tuple_getitem ht.typeIs entry_tuple_getitem ?_ (args_tuple_getitem _ _)))
 show wpAny _ _ (Builtin.Tuple.tupleItemsOf (.ref t) >>= _) _ _ s
 refine wpAny_bind (tupleItemsOf_ ht ?_)
 refine wpAny_bind (wpAny_typeOf hTs ?_)
 rw [if_pos (by decide)]
 refine wpAny_bind (dl hs pl pu ?_)
 have hno:¬ ((((sIx items.size 0 lo:Nat):Int) == 0 && (1:Int) == 1 && (sIx items.size items.size hi - sIx items.size 0 lo) == items.size) = true):=by
  intro q
  rw [Bool.and_eq_true,Bool.and_eq_true] at q
  have q1:((sIx items.size 0 lo:Nat):Int) = 0:=eq_of_beq q.1.1
  have q2:sIx items.size items.size hi - sIx items.size 0 lo = items.size:=eq_of_beq q.2
  exact hw ⟨by omega,by omega⟩
 show wpAny _ _ (if (((sIx items.size 0 lo:Nat):Int) == 0 && (1:Int) == 1 && (sIx items.size items.size hi - sIx items.size 0 lo) == items.size) = true then _ else _) _ _ s
 rw [if_neg hno,vY]
 first
  | exact wpAny_bind (m:=Builtin.Tuple.tupleExact _) (wpAny_newObj_type (wpAny_pure ⟨_,rfl,wpAny_pure h⟩) htake)
  | exact wpAny_bind (m:=Builtin.Tuple.tupleExact _) (wpAny_newObj_type (wpAny_bind (wpAny_pure (wpAny_pure ⟨_,rfl,wpAny_pure h⟩))) htake)
  | exact wpAny_bind (wpAny_bind (m:=Builtin.Tuple.tupleExact _) (wpAny_newObj_type (wpAny_pure (wpAny_pure ⟨_,rfl,wpAny_pure h⟩)) htake))
  | exact wpAny_bind (wpAny_bind (m:=Builtin.Tuple.tupleExact _) (wpAny_newObj_type (wpAny_pure ⟨_,rfl,wpAny_pure h⟩) htake))
end
end HT
namespace L2
open PySem PySem.Spec PyProof.Rows
abbrev TO:=St→Hp→(Option Int→Hp→Prop)→Prop
def PO (X:Cx) (e:Option Expr) (t:TO):Prop :=
 ∀ (pins:List (Addr×Obj)) (s:Shared) (σ : St) (H:Hp) (Q:Option Int→Hp→Prop),Inv X pins σ H s→t σ H Q →
  wpAny (model X.prog X.w) X.A (evalPart e X.env) (fun u s'=>∃ o H',Inv X pins σ H' s'∧IsPart u o∧Q o H') X.xe s
def zm:TO:=fun _ H Q=>Q none H
def Ja (t:TE):TO:=fun σ H Q=>t σ H fun x H1=>∃ i,x = .int i∧Q (some i) H1
theorem jC {ns:List Int}:∀ {us:List Value},Vals (ns.map V.int) us→IntsAre us ns:=by
 induction ns with
 | nil=>intro us r; rw [List.map_nil] at r; cases r; exact .nil
 | cons n ns ih =>
  intro us r
  rw [List.map_cons] at r
  cases r with
  | cons r1 r2 =>
   obtain ⟨t,e⟩:=r1
   subst e
   exact .cons n t (ih r2)
section
variable {X:Cx} {e:Expr} {te:TE} {lo hi:Option Expr} {tl th:TO} {pos p2:Pos}
theorem AE:PO X none zm:=by
 intro pins s σ H Q I h
 rw [evalPart_none]
 exact wpAny_pure ⟨none,H,I,.none,h⟩
theorem zt (h:PE X e te):PO X (some e) (Ja te):=by
 intro pins s σ H Q I hw
 rw [evalPart_some]
 refine thn (h pins s σ H _ I hw) fun u s1 ⟨x,H1,I1,r1,q1⟩=>?_
 obtain ⟨i,rfl,q⟩:=q1
 obtain ⟨t,rfl⟩:=r1
 exact ⟨some i,H1,I1,.int i t,q⟩
def SlR (X:Cx) (r:V→Option Int→Option Int→Hp→VK→Prop):Prop :=
 ∀ (pins:List (Addr×Obj)) (s:Shared) (σ : St) (H:Hp) (x:V) (v vl vu:Value) (lo hi:Option Int) (sl:Addr) (Q:VK),Inv X pins σ H s→RelV x v→s.heap.IsSliceOf sl vl vu .none→IsPart vl lo→IsPart vu hi→r x lo hi H Q →
  ∃ T id,typeLookup (.type T) "__getitem__" = pure (some (.builtin id))∧s.TypeIs v T∧wpAny (model X.prog X.w) X.A (getItem v (.ref sl)) (EP X pins σ Q) X.xe s
def tSl (r:V→Option Int→Option Int→Hp→VK→Prop) (te:TE) (tl th:TO):TE:=fun σ H Q=>te σ H fun x H1=>tl σ H1 fun l H2=>th σ H2 fun u H3=>r x l u H3 Q
theorem wf {r:V→Option Int→Option Int→Hp→VK→Prop} (hr:SlR X r) (he:PE X e te) (hl:PO X lo tl) (hu:PO X hi th):PE X (.Subscript e (.Slice lo hi none p2) pos) (tSl r te tl th):=by
 intro pins s σ H Q I h
 refine Subscript_ (thn (he pins s σ H _ I h) fun v s1 ⟨x,H1,I1,r1,q1⟩=>?_)
 refine wpAny_Slice (thn (hl pins s1 σ H1 _ I1 q1) fun vl s2 ⟨l,H2,I2,pl,q2⟩=>thn (hu pins s2 σ H2 _ I2 q2) fun vu s3 ⟨u,H3,I3,pu,q3⟩=>?_)
 rw [evalPart_none]
 refine wpAny_pure ?_
 have I4:Inv X pins σ H3 { s3 with heap:=s3.heap.push { cls:=.type "slice",data:=.fields #[vl,vu,.none] } }:=I3.kept (t':=s3.toks) fun b ob q=>Heap.get?_push_of_some _ q
 obtain ⟨T,id,hT,ht,hg⟩:=hr pins { s3 with heap:=s3.heap.push { cls:=.type "slice",data:=.fields #[vl,vu,.none] } } σ H3 x v vl vu l u s3.heap.objs.size Q I4 r1 (Heap.IsSliceOf.new ..) pl pu q3
 show wpAny (model X.prog X.w) X.A (subscriptTail e (.Slice lo hi none p2) v (.ref s3.heap.objs.size)) (EP X pins σ Q) X.xe { s3 with heap:=s3.heap.push { cls:=.type "slice",data:=.fields #[vl,vu,.none] } }
 exact tail_any (ops:=[.ref s3.heap.objs.size,v]) ht hT hg (by with_unfolding_all rfl)
def cutV (xs:List V) (lo hi:Option Int):List V:=(xs.drop (HT.sIx xs.length 0 lo)).take (HT.sIx xs.length xs.length hi - HT.sIx xs.length 0 lo)
theorem iA (xs:List V) (lo hi:Option Int):(cutV xs lo hi).length≤xs.length:=by
 unfold cutV
 rw [List.length_take,List.length_drop]
 omega
def rSlT (K:PySem.W.Frag):V→Option Int→Option Int→Hp→VK→Prop:=fun x lo hi H Q=>∃ a xs,x = .ref a∧SqT K H a xs ∧
 ¬ (HT.sIx xs.length 0 lo = 0∧HT.sIx xs.length xs.length hi = xs.length)∧∀ p,H p = none→Q (.ref p) (upd H p (.tup (cutV xs lo hi)))
theorem Dj:SlR X (rSlT X.K):=by
 intro pins s σ H x v vl vu lo hi sl Q I rx hs pl pu h
 obtain ⟨a,xs,rfl,hx,hw,q⟩:=h
 cases rx
 obtain ⟨its,r,ht,hz⟩:=I.tuple hx
 have hlen:its.toArray.size = xs.length:=by rw [List.size_toArray]; exact r.length.symm
 refine ⟨"tuple",_,PyProof.Rows.slot_tuple_getitem.lookup,ht.typeIs,?_⟩
 refine HT.getItem_tuple_cut ht hs pl pu (by rw [hlen]; exact hw) ?_ (by rw [hlen]; exact hz)
 rw [hlen]
 refine ⟨.ref s.heap.objs.size,_,I.laid (t':=s.toks) (o:=.tup (cutV xs lo hi)) (fun b ob q=>Heap.get?_push_of_some _ q) (Nat.le_refl _) ?_,rfl,q _ (I.hok.fresh (Nat.le_refl _))⟩
 exact ⟨Nat.le_trans (iA xs lo hi) hz,_,(r.drop (HT.sIx xs.length 0 lo)).take (HT.sIx xs.length xs.length hi - HT.sIx xs.length 0 lo),PlainT.new _ _⟩
def KO (K:PySem.W.Frag):R2:=fun x y H Q=>∃ a b xs ys,x = .ref a∧y = .ref b∧SqT K H a xs∧SqT K H b ys∧xs≠[]∧xs.length + ys.length≤sizeLine ∧
 (ys = []→Q (.ref a) H)∧(ys≠[]→∀ p,H p = none→Q (.ref p) (upd H p (.tup (xs++ys))))
theorem Vals.nil_iff {xs:List V} {us:List Value} (r:Vals xs us):us = []↔xs = []:=by
 cases r with
 | nil=>simp
 | cons _ _=>simp
theorem Bc:OpR X (binaryOp .Add) (KO X.K):=by
 intro pins s σ H x y v u Q I rx ry h
 obtain ⟨a,b,xs,ys,rfl,rfl,ha,hb,hx,hz,q1,q2⟩:=h
 cases rx
 cases ry
 obtain ⟨its,r1,p1,_⟩:=I.tuple ha
 obtain ⟨its2,r2,p2,_⟩:=I.tuple hb
 refine HT.cat_tup p1 p2 (fun z=>hx (r1.nil_iff.mp z)) (fun z=>⟨.ref a,H,I,rfl,q1 (r2.nil_iff.mp z)⟩) (fun z=>?_) (by rw [←r1.length,←r2.length]; exact hz)
 refine ⟨.ref s.heap.objs.size,_,I.laid (t':=s.toks) (o:=.tup (xs++ys)) (fun b ob q=>Heap.get?_push_of_some _ q) (Nat.le_refl _) ?_,rfl,q2 (fun w=>z (r2.nil_iff.mpr w)) _ (I.hok.fresh (Nat.le_refl _))⟩
 exact ⟨by rw [List.length_append]; exact hz,_,r1.append r2,PlainT.new _ _⟩
end
def ixN (n:Nat) (i:Int):Option Nat:=if 0≤i then (if i < n then some i.toNat else none) else if -(n:Int)≤i then some (i + n).toNat else none
def atI {α : Type} (xs:List α) (i:Int):Option α:=(ixN xs.length i).bind fun j=>xs[j]?
theorem sg {n:Nat} {i:Int} {j:Nat} (h:ixN n i = some j):seqIndex? i n = some j∧j < n∧-(n:Int)≤i∧i < n:=by
 unfold ixN at h
 by_cases h0 : 0≤i
 ·rw [if_pos h0] at h
  by_cases h1:i < n
  ·rw [if_pos h1] at h
   have e:i.toNat = j:=Option.some.inj h
   exact ⟨by rw [seqIndex_of h0 h1,e],by omega,by omega,h1⟩
  ·rw [if_neg h1] at h; cases h
 ·rw [if_neg h0] at h
  by_cases h1 : -(n:Int)≤i
  ·rw [if_pos h1] at h
   have e:(i + n).toNat = j:=Option.some.inj h
   exact ⟨by rw [seqIndex_neg (by omega) h1,e],by omega,h1,by omega⟩
  ·rw [if_neg h1] at h; cases h
theorem nr {α : Type} {xs:List α} {i:Int} {v : α} (h:atI xs i = some v):∃ j,seqIndex? i xs.length = some j∧xs[j]? = some v∧j < xs.length∧-(xs.length:Int)≤i∧i < xs.length:=by
 unfold atI at h
 cases e:ixN xs.length i with
 | none=>rw [e] at h; cases h
 | some j =>
  rw [e] at h
  obtain ⟨h1,h2,h3,h4⟩:=sg e
  exact ⟨j,h1,h,h2,h3,h4⟩
theorem bc {α : Type} {xs:List α} {j:Nat} {v : α} (h:xs[j]? = some v):atI xs (j:Int) = some v:=by
 have hj:j < xs.length:=(List.getElem?_eq_some_iff.mp h).1
 have e:ixN xs.length (j:Int) = some j:=by
  unfold ixN
  rw [if_pos (by omega),if_pos (by omega)]; simp
 unfold atI; rw [e]; exact h
def iB (b:Expr):Prop:=∀ o i,subscripted b false o i = operate [o,i] (getItem o i)
def IxR (X:Cx) (r:R2):Prop :=
 ∀ (value slice:Expr) (pins:List (Addr×Obj)) (s:Shared) (σ : St) (H:Hp) (x y:V) (v u:Value) (Q:VK),Inv X pins σ H s→RelV x v→RelV y u→r x y H Q →
  subscripted slice false v u = operate [v,u] (getItem v u)→wpAny (model X.prog X.w) X.A (subscriptTail value slice v u) (EP X pins σ Q) X.xe s
def MtR (X:Cx) (id:String) (r:V→List V→Hp→VK→Prop):Prop :=
 ∀ (pins:List (Addr×Obj)) (s:Shared) (σ : St) (H:Hp) (x:V) (xs:List V) (v:Value) (us:List Value) (Q:VK),Inv X pins σ H s→RelV x v→Vals xs us→r x xs H Q →
  wpAny (model X.prog X.w) X.A (call (.builtin id) (v :: us)) (EP X pins σ Q) X.xe s
section
variable {X:Cx} {a b:Expr} {ta tb:TE} {pos:Pos}
theorem Ir {r:R2} (hr:IxR X r) (ha:PE X a ta) (hb:PE X b tb) (hs:iB b):PE X (.Subscript a b pos) (tOp r ta tb):=by
 intro pins s σ H Q I h
 exact Subscript_ (binT ha hb I h fun v u s2 x y H2 I2 rx ry q=>hr a b pins s2 σ H2 x y v u Q I2 rx ry q (hs _ _))
def rIxL (K:PySem.W.Frag):R2:=fun x y H Q=>∃ p xs i v,x = .ref p∧y = .int i∧SqL K H p xs∧atI xs i = some v∧Q v H
def rIxT (K:PySem.W.Frag):R2:=fun x y H Q=>∃ p xs i v,x = .ref p∧y = .int i∧SqT K H p xs∧atI xs i = some v∧Q v H
def rIxS:R2:=fun x y H Q=>∃ z i c,x = .str z∧y = .int i∧z.length≤sizeLine∧atI z.cps.toList i = some c∧Q (.str ⟨#[c]⟩) H
theorem t7:IxR X (rIxL X.K):=by
 intro value slice pins s σ H x y v u Q I rx ry h hs
 obtain ⟨p,xs,i,z,rfl,rfl,hq,he,q⟩:=h
 cases rx
 obtain ⟨t,rfl⟩:=ry
 obtain ⟨its,r,pl,hz⟩:=I.list hq
 obtain ⟨j,h1,h2,h3,h4,h5⟩:=nr he
 obtain ⟨w,ew,rw'⟩:=r.get h2
 have hl:=r.length
 have hn:=jx
 have fin:EP X pins σ Q w s:=⟨z,H,I,rw',q⟩
 by_cases h0 : 0≤i
 ·have hj:i.toNat = j:=by
   rw [seqIndex_of h0 h5] at h1
   exact Option.some.inj h1
  exact item_listR pl.isList h0 (by omega) (by rw [hj]; simpa using ew) fin hs
 ·have hj:(i + (its.toArray.size:Int)).toNat = j:=by
   rw [seqIndex_neg (by omega) h4] at h1
   rw [List.size_toArray,←hl]
   exact Option.some.inj h1
  exact subscriptTail_builtinR (x:=w) pl.isList.typeIs slot_list_getitem.lookup
   (wpAny_getItem_list_neg (Q:=fun r s'=>r = w∧EP X pins σ Q r s') pl.isList (by omega) (by rw [List.size_toArray] <;> omega) (by omega) (by rw [hj]; simpa using ew) ⟨rfl,fin⟩) hs
theorem Dk:IxR X (rIxT X.K):=by
 intro value slice pins s σ H x y v u Q I rx ry h hs
 obtain ⟨p,xs,i,z,rfl,rfl,hq,he,q⟩:=h
 cases rx
 obtain ⟨t,rfl⟩:=ry
 obtain ⟨its,r,pl,hz⟩:=I.tuple hq
 obtain ⟨j,h1,h2,h3,h4,h5⟩:=nr he
 obtain ⟨w,ew,rw'⟩:=r.get h2
 have hl:=r.length
 have hn:=jx
 have fin:EP X pins σ Q w s:=⟨z,H,I,rw',q⟩
 exact subscriptTail_builtinR (x:=w) pl.typeIs slot_tuple_getitem.lookup
  (getItem_tuple (j:=j) (Q:=fun r s'=>r = w∧EP X pins σ Q r s') pl (by omega) (by omega) (by rw [List.size_toArray,←hl]; exact h1) (by simpa using ew) ⟨rfl,fin⟩) hs
theorem Im:IxR X rIxS:=by
 intro value slice pins s σ H x y v u Q I rx ry h hs
 obtain ⟨z,i,c,rfl,rfl,hz,he,q⟩:=h
 obtain ⟨t,rfl⟩:=rx
 obtain ⟨t',rfl⟩:=ry
 obtain ⟨j,h1,h2,h3,h4,h5⟩:=nr he
 have hl:z.cps.toList.length = z.length:=by simp [Str.length]
 rw [hl] at h1 h4 h5
 have hn:=jx
 exact tail_any (typeIs_str s z t) slot_str_getitem.lookup (getItem_str (c:=c) (by
  have e1:decide (i < -(2 ^ 63:Int)) = false:=decide_eq_false (by omega)
  have e2:decide (i ≥ 2 ^ 63) = false:=decide_eq_false (by omega)
  rw [e1,e2,Bool.or_false]) (by rw [h1]; simpa using h2) ⟨.str ⟨#[c]⟩,H,I.tok _,⟨_,rfl⟩,q⟩) hs
theorem qf (its:List Value) (n j:Nat) (u:Value):Obj.mapSeq (·.setIfInBounds j u) { cls:=.type "list",data:=.seq its.toArray n } = { cls:=.type "list",data:=.seq (its.set j u).toArray n }:=by
 simp [Obj.mapSeq]
theorem Inv.lst {pins:List (Addr×Obj)} {σ : St} {H:Hp} {s:Shared} {p:Addr} {xs:List V} (I:Inv X pins σ H s) (h:H p = some (.lst xs)) :
  ∃ (its:List Value) (n:Nat),Vals xs its∧s.heap.get? p = some { cls:=.type "list",data:=.seq its.toArray n }∧xs.length≤sizeLine:=by
 obtain ⟨z,its,n,r,e⟩:=I.hok p _ h
 exact ⟨its,n,r,e,z⟩
theorem Inv.lstUpd {pins:List (Addr×Obj)} {σ : St} {H:Hp} {s:Shared} {p:Addr} {xs ys:List V} {its its':List Value} {n n':Nat} {f:Obj→Obj} (I:Inv X pins σ H s) (h:H p = some (.lst xs))
  (ho:s.heap.get? p = some { cls:=.type "list",data:=.seq its.toArray n }) (hf:f { cls:=.type "list",data:=.seq its.toArray n } = { cls:=.type "list",data:=.seq its'.toArray n' }) (r:Vals ys its') (hz:ys.length≤sizeLine) (t:Nat) :
  Inv X pins σ (upd H p (.lst ys)) { s with heap:=s.heap.update p f,toks:=t }:=by
 have e:(s.heap.update p f).get? p = some { cls:=.type "list",data:=.seq its'.toArray n' }:=by
  rw [Heap.get?_update_self f ho (by rw [hf] <;> rfl),hf]
 refine I.write (x:=p) (e:=p) (by rw [h]; trivial) (.inl rfl) (fun b u hb q=>(Heap.get?_update_other _ _ (Ne.symm hb)).trans q) ⟨_,e⟩ ?_
 exact ⟨hz,its',n',r,e⟩
def Ke:V→V→V→Hp→(Hp→Prop)→Prop:=fun o i v H Q=>∃ p xs k j,o = .ref p∧i = .int k∧H p = some (.lst xs)∧ixN xs.length k = some j∧Q (upd H p (.lst (xs.set j v)))
theorem xt:PSet X Ke:=by
 intro pins s σ H o i v ov iv u Q I ro ri rv h
 obtain ⟨p,xs,k,j,rfl,rfl,hp,hj,q⟩:=h
 cases ro
 obtain ⟨t,rfl⟩:=ri
 obtain ⟨its,n,r,ho,hz⟩:=I.lst hp
 obtain ⟨h1,h2,h3,h4⟩:=sg hj
 have hl:=r.length
 have hn:=jx
 have I':Inv X pins σ (upd H p (.lst (xs.set j v))) { s with heap:=s.heap.update p (Obj.mapSeq (·.setIfInBounds j u)) } :=
  I.lstUpd hp ho (qf its n j u) (r.set rv j) (by rw [List.length_set]; exact hz) s.toks
 by_cases h0 : 0≤k
 ·have hk:k.toNat = j:=by
   rw [seqIndex_of h0 h4] at h1
   exact Option.some.inj h1
  exact PySem.W.ki_setAt ho h0 (by omega) (by rw [List.size_toArray,←hl]; exact h4) (by rw [hk]; exact ⟨_,I',q⟩)
 ·have hk:(k + (its.toArray.size:Int)).toNat = j:=by
   rw [seqIndex_neg (by omega) h3] at h1
   rw [List.size_toArray,←hl]
   exact Option.some.inj h1
  exact PySem.W.ki_setBack ho (by omega) (by rw [List.size_toArray,←hl]; exact h3) (by omega) (by rw [hk]; exact ⟨_,I',q⟩)
theorem lW (lo hi:Option Int) (n:Nat):(sliceBounds lo hi none n).1 = ((HT.sIx n 0 lo:Nat):Int)∧(sliceBounds lo hi none n).2.1 = ((HT.sIx n n hi:Nat):Int)∧(sliceBounds lo hi none n).2.2 = 1:=by
 refine ⟨?_,?_,rfl⟩
 ·cases lo with
  | none=>simp [sliceBounds,HT.sIx]
  | some i =>
   simp only [sliceBounds,HT.sIx,Option.getD_none,show (1:Int) > 0 by decide,if_true]
   by_cases h:i < 0
   ·simp only [h,if_true] <;> omega
   ·simp only [h,if_false] <;> omega
 ·cases hi with
  | none=>simp [sliceBounds,HT.sIx]
  | some i =>
   simp only [sliceBounds,HT.sIx,Option.getD_none,show (1:Int) > 0 by decide,if_true]
   by_cases h:i < 0
   ·simp only [h,if_true] <;> omega
   ·simp only [h,if_false] <;> omega
theorem jZ (its:List Value) (lo hi:Option Int):slicePick its.toArray lo hi none = ((its.drop (HT.sIx its.length 0 lo)).take (HT.sIx its.length its.length hi - HT.sIx its.length 0 lo)).toArray:=by
 obtain ⟨h1,h2,h3⟩:=lW lo hi its.toArray.size
 unfold slicePick
 rw [h1,h2,h3]
 simp only [sliceRange_one,pick_run,List.size_toArray] <;> rfl
def rSlL (K:PySem.W.Frag):V→Option Int→Option Int→Hp→VK→Prop:=fun x lo hi H Q=>∃ a xs,x = .ref a∧SqL K H a xs∧∀ p,H p = none→Q (.ref p) (upd H p (.lst (cutV xs lo hi)))
theorem BV:SlR X (rSlL X.K):=by
 intro pins s σ H x v vl vu lo hi sl Q I rx hs pl pu h
 obtain ⟨a,xs,rfl,hx,q⟩:=h
 cases rx
 obtain ⟨its,r,ht,hz⟩:=I.list hx
 have hlen:=r.length
 refine ⟨"list",_,slot_list_getitem.lookup,ht.isList.typeIs,?_⟩
 refine wpAny_getItem_list_slice ht.isList hs pl pu .none (by simp) ?_ (by rw [List.size_toArray] <;> omega)
 rw [jZ,←hlen]
 refine ⟨.ref s.heap.objs.size,_,I.laid (t':=s.toks) (o:=.lst (cutV xs lo hi)) (fun b ob q=>Heap.get?_push_of_some _ q) (Nat.le_refl _) ?_,rfl,q _ (I.hok.fresh (Nat.le_refl _))⟩
 exact ⟨Nat.le_trans (iA xs lo hi) hz,_,0,(r.drop (HT.sIx xs.length 0 lo)).take (HT.sIx xs.length xs.length hi - HT.sIx xs.length 0 lo),Heap.get?_push_size _ rfl⟩
theorem gF:b9 X (.builtin "len") (fun xs H Q=>∃ p ys,xs = [.ref p]∧(SqL X.K H p ys∨SqT X.K H p ys)∧Q (.int ys.length) H):=by
 intro pins s σ H xs us Q I r h
 obtain ⟨p,ys,rfl,hq,q⟩:=h
 obtain ⟨u,rfl,rx⟩:=nQ r
 cases rx
 have hn:=jx
 rcases hq with hq | hq
 ·obtain ⟨its,r',pl,hz⟩:=I.list hq
  have hlen:=r'.length
  exact Calls.call_len_list pl.isList (by simp only [List.size_toArray] <;> omega) ⟨.int ys.length,H,I.tok _,⟨s.toks + 1,by rw [List.size_toArray,hlen]⟩,q⟩
 ·obtain ⟨its,r',pl,hz⟩:=I.tuple hq
  have hlen:=r'.length
  exact len_tuple pl (by simp only [List.size_toArray] <;> omega) ⟨.int ys.length,H,I.tok _,⟨s.toks + 1,by rw [List.size_toArray,hlen]⟩,q⟩
theorem lM:b9 X (.builtin "len") (fun xs H Q=>∃ z,xs = [.str z]∧z.length≤sizeLine∧Q (.int z.length) H):=by
 intro pins s σ H xs us Q I r h
 obtain ⟨z,rfl,hz,q⟩:=h
 obtain ⟨u,rfl,t,rfl⟩:=nQ r
 have hn:=jx
 exact len_str (by omega) ⟨.int z.length,H,I.tok _,⟨_,rfl⟩,q⟩
theorem lu:b9 X (.type "list") (fun xs H Q=>∃ p ys,xs = [.ref p]∧(SqL X.K H p ys∨SqT X.K H p ys)∧∀ l,H l = none→Q (.ref l) (upd H l (.lst ys))):=by
 intro pins s σ H xs us Q I r h
 obtain ⟨p,ys,rfl,hq,q⟩:=h
 obtain ⟨u,rfl,rx⟩:=nQ r
 cases rx
 have fin:∀ (its:List Value),Vals ys its→ys.length≤sizeLine→∀ (h':Heap) (c':Nat),(∀ b o',s.heap.get? b = some o'→h'.get? b = some o') →
   h'.get? s.heap.objs.size = some { cls:=.type "list",dict:=none,data:=.seq its.toArray c',slots:=#[] }→EP X pins σ Q (.ref s.heap.objs.size) { s with heap:=h' }:=fun its r' hz h' c' kp e =>
  ⟨.ref s.heap.objs.size,_,I.laid (t':=s.toks) kp (Nat.le_refl _) (show ObjOk X.prog X.w _ h' _ (.lst ys) from ⟨hz,its,c',r',e⟩),rfl,q _ (I.hok.fresh (Nat.le_refl _))⟩
 rcases hq with hq | hq
 ·obtain ⟨its,r',pl,hz⟩:=I.list hq
  have hlen:=r'.length
  obtain ⟨o,ho,hc,n,hd⟩:=pl.isList
  exact call_list_seq p (.inl rfl) ho hc hd (fun h' c' kp e=>fin its r' hz h' c' kp e) (by simp only [List.size_toArray] <;> omega)
 ·obtain ⟨its,r',pl,hz⟩:=I.tuple hq
  have hlen:=r'.length
  obtain ⟨o,ho,hc,n,hd⟩:=pl
  exact call_list_seq p (.inr rfl) ho hc hd (fun h' c' kp e=>fin its r' hz h' c' kp e) (by simp only [List.size_toArray] <;> omega)
theorem jX:b9 X (.type "tuple") (fun xs H Q=>∃ p ys,xs = [.ref p]∧((SqL X.K H p ys∧∀ l,H l = none→Q (.ref l) (upd H l (.tup ys)))∨(SqT X.K H p ys∧Q (.ref p) H))):=by
 intro pins s σ H xs us Q I r h
 obtain ⟨p,ys,rfl,h⟩:=h
 obtain ⟨u,rfl,rx⟩:=nQ r
 cases rx
 rcases h with ⟨hq,q⟩ | ⟨hq,q⟩
 ·obtain ⟨its,r',pl,hz⟩:=I.list hq
  have hlen:=r'.length
  refine call_tuple_list pl.isList (fun h' kp=>?_) (by simp only [List.size_toArray] <;> omega)
  have I1:Inv X pins σ H { s with heap:=h' }:=I.kept (t':=s.toks) kp
  have I2:Inv X pins σ (upd H h'.objs.size (.tup ys)) { s with heap:=h'.push { cls:=.type "tuple",data:=.seq its.toArray } } :=
   I1.laid (t':=s.toks) (fun b o e=>Heap.get?_push_of_some _ e) (Nat.le_refl _) (show ObjOk X.prog X.w _ _ _ (.tup ys) from ⟨hz,its,r',PlainT.new _ _⟩)
  exact ⟨.ref h'.objs.size,_,I2,rfl,q _ (I1.hok.fresh (Nat.le_refl _))⟩
 ·obtain ⟨its,r',pl,hz⟩:=I.tuple hq
  exact call_tuple_same pl ⟨.ref p,H,I,rfl,q⟩
def tyV (K:PySem.W.Frag) (T:String) (x:V) (H:Hp):Prop:=match x with
 | .str _=>T = "str"
 | .int _=>T = "int"
 | .ref p=>(T = "list" ∧ ∃ xs,SqL K H p xs)∨(T = "tuple" ∧ ∃ xs,SqT K H p xs) ∨
   (T = "dict" ∧ ((∃ kvs,H p = some (.dK kvs))∨∃ kvs,H p = some (.dT kvs)))∨(T = "set" ∧ ∃ S n,H p = some (.set S n))
 | _=>False
theorem CW {pins:List (Addr×Obj)} {σ : St} {H:Hp} {s:Shared} {T:String} {x:V} {v:Value} (I:Inv X pins σ H s) (r:RelV x v) (ty:tyV X.K T x H) :
  s.TypeIs v T∧∀ a,v = .ref a→∃ ob,s.heap.get? a = some ob∧ob.dict = none:=by
 cases x with
 | str z =>
  obtain ⟨t,rfl⟩:=r
  cases (show T = "str" from ty)
  exact ⟨typeIs_str s z t,fun _ e=>nomatch e⟩
 | int i =>
  obtain ⟨t,rfl⟩:=r
  cases (show T = "int" from ty)
  exact ⟨typeIs_int s i t,fun _ e=>nomatch e⟩
 | ref p =>
  cases r
  rcases ty with ⟨rfl,xs,hq⟩ | ⟨rfl,xs,hq⟩ | ⟨rfl,hk⟩ | ⟨rfl,S,n,hk⟩
  ·obtain ⟨its,_,pl,_⟩:=I.list hq
   refine ⟨pl.isList.typeIs,fun a e=>?_⟩
   cases e
   obtain ⟨o,n,e,c,hd,_⟩:=pl
   exact ⟨o,e,hd⟩
  ·obtain ⟨its,_,⟨o,e0,hc,hd,_⟩,_⟩:=I.tupleP hq
   refine ⟨⟨o,e0,hc⟩,fun a e=>?_⟩
   cases e
   exact ⟨o,e0,hd⟩
  ·have z:∃ o,s.heap.get? p = some o∧o.ExactDict:=by
    rcases hk with ⟨kvs,hk⟩ | ⟨kvs,hk⟩
    ·obtain ⟨_,_,_,_,o,_,_,e,ex,_⟩:=I.hok p _ hk
     exact ⟨o,e,ex⟩
    ·obtain ⟨_,_,_,_,o,_,_,e,ex,_⟩:=I.hok p _ hk
     exact ⟨o,e,ex⟩
   obtain ⟨o,e,ex⟩:=z
   refine ⟨⟨o,e,ex.1⟩,fun a e2=>?_⟩
   cases e2
   exact ⟨o,e,ex.2.1⟩
  ·obtain ⟨o,_,_,_,e,ex,_⟩:=I.hok p _ hk
   refine ⟨⟨o,e,ex.1⟩,fun a e2=>?_⟩
   cases e2
   exact ⟨o,e,ex.2.1⟩
 | _=>exact False.elim ty
def tBM (K:PySem.W.Frag) (T:String) (r:V→List V→Hp→VK→Prop) (to:TE) (t:TA):TE:=fun σ H Q=>to σ H fun x H1=>tyV K T x H1∧t σ H1 fun xs H2=>r x xs H2 Q
variable {o e:Expr} {es:List Expr} {to:TE} {t:TA} {name:Str} {apos cpos:Pos} {T id:String} {r:V→List V→Hp→VK→Prop}
theorem AQ (pa:PlainAttrs T) (slot:Slot T name id) (hty:typeOf (.builtin id) = pure (.type "method_descriptor")) (hm:MtR X id r) (ho:PE X o to) (ha:PA X (e :: es) t)
  (hbase:attributeBase o name X.env (eval o X.env) = eval o X.env:=by rfl)
  (hfew:((backTo cpos (starEach (e :: es) X.env)).all (fun x=>!x.1) && (backToKw cpos (keywordEach [] X.env)).all (fun x=>x.1.isSome)
   && decide ((e :: es).length + ([]:List Keyword).length + (if ([]:List Keyword).isEmpty then 0 else 1) < 30)) = true:=by rfl)
  (hline:(apos.endLine == cpos.line) = true:=by rfl) (hs:starEach (e :: es) X.env = (false,eval e X.env) :: starEach es X.env:=by rfl) (hplain:(backTo cpos (starEach es X.env)).any (·.1) = false:=by rfl) :
  PE X (.Call (.Attribute o name apos) (e :: es) [] cpos) (tBM X.K T r to t):=by
 intro pins s σ H Q I h
 refine wpAny_Call_method_late hbase hfew hline rfl (thn (ho pins s σ H _ I h) fun v s1 ⟨x,H1,I1,r1,ty,q1⟩=>?_)
 obtain ⟨h1,h2⟩:=CW I1 r1 ty
 refine ⟨T,id,pa,slot,hty,h1,h2,?_⟩
 have hA:=ha cpos pins s1 σ H1 _ I1 q1
 rw [hs] at hA ⊢
 refine Calls.callWith_builtin (by show (false || (backTo cpos (starEach es X.env)).any (·.1)) = false; rw [hplain] <;> rfl) (Calls.evalArgs_plain ?_)
 exact thn hA fun us s2 ⟨vs,H2,I2,r2,q2⟩=>hm pins s2 σ H2 x vs v us Q I2 r1 r2 q2
end
def MtM (X:Cx) (id:String) (r:V→List V→Hp→VK→Prop):Prop :=
 ∀ (pins:List (Addr×Obj)) (s:Shared) (σ : St) (H:Hp) (x:V) (xs:List V) (v:Value) (us:List Value) (Q:VK),Inv X pins σ H s→RelV x v→Vals xs us→r x xs H Q →
  wpAny (model X.prog X.w) X.A (call (.builtin id) (v :: us)) (EP X pins σ Q) X.xe s
theorem Vals.one:∀ {x:V} {us:List Value},Vals [x] us→∃ u,us = [u]∧RelV x u
 | _,_,.cons r .nil=>⟨_,rfl,r⟩
theorem Vals.two:∀ {x y:V} {us:List Value},Vals [x,y] us→∃ u v,us = [u,v]∧RelV x u∧RelV y v
 | _,_,_,.cons r (.cons q .nil)=>⟨_,_,rfl,r,q⟩
theorem Vals.rep {xs:List V} {us:List Value} (h:Vals xs us):∀ k:Nat,Vals (List.replicate k xs).flatten (List.replicate k us).flatten
 | 0=>.nil
 | k + 1=>by
  rw [List.replicate_succ,List.replicate_succ,List.flatten_cons,List.flatten_cons]
  exact Vals.append h (Vals.rep h k)
theorem ij (its:List Value):∀ (k:Nat) (acc:List Value),
  List.foldl (fun x1 x2=>x1++x2) acc.toArray (List.replicate k its.toArray) = (acc++(List.replicate k its).flatten).toArray
 | 0,acc=>by simp
 | k + 1,acc=>by
  have e:acc.toArray++its.toArray = (acc++its).toArray:=by simp
  have e2:(acc++its)++(List.replicate k its).flatten = acc++(List.replicate (k + 1) its).flatten:=by
   rw [List.replicate_succ,List.flatten_cons,List.append_assoc]
  rw [←e2,←ij its k (acc++its),←e,List.replicate_succ,List.foldl_cons]
section
variable {X:Cx} {pins:List (Addr×Obj)} {σ : St} {H:Hp} {s:Shared} {l b:Addr} {xs ys zs:List V}
theorem Inv.lset {its its':List Value} {n:Nat} {f:Array Value→Array Value} {t':Nat} (I:Inv X pins σ H s) (hH:H l = some (.lst xs))
  (e:s.heap.get? l = some { cls:=.type "list",data:=.seq its.toArray n }) (hf:f its.toArray = its'.toArray) (hv:Vals ys its') (hz:ys.length≤sizeLine) :
  Inv X pins σ (upd H l (.lst ys)) { s with heap:=s.heap.update l (Obj.mapSeq f),toks:=t' }:=by
 have q:=PySem.IsL.update e f
 rw [hf] at q
 refine I.write (x:=l) (e:=l) (by rw [hH]; exact trivial) (.inl rfl) (fun b' u hb hu=>(Heap.get?_update_other s.heap (Obj.mapSeq f) (Ne.symm hb)).trans hu) ⟨_,q⟩ ?_
 exact ⟨hz,its',_,hv,q⟩
theorem Inv.lnew {its:List Value} {t':Nat} (I:Inv X pins σ H s) (hv:Vals ys its) (hz:ys.length≤sizeLine) :
  Inv X pins σ (upd H s.heap.objs.size (.lst ys)) { s with heap:=s.heap.push { cls:=.type "list",data:=.seq its.toArray },toks:=t' } :=
 I.laid (fun _ _ q=>Heap.get?_push_of_some _ q) (Nat.le_refl _) ⟨hz,its,0,hv,Heap.get?_push_size _ rfl⟩
theorem Inv.fresh (I:Inv X pins σ H s):H s.heap.objs.size = none:=I.hok.fresh (Nat.le_refl _)
theorem Inv.lstM (I:Inv X pins σ H s) (hH:H l = some (.lst xs)):xs.length≤sizeLine∧∃ (its:List Value) (n:Nat),Vals xs its∧xs.length = its.length∧s.heap.get? l = some { cls:=.type "list",data:=.seq its.toArray n }:=by
 obtain ⟨z,its,n,r,e⟩:=I.hok l _ hH
 exact ⟨z,its,n,r,r.length,e⟩
theorem oM {n:Nat} (h:n≤sizeLine):Builtin.List.listTooLong n = false:=by
 unfold Builtin.List.listTooLong
 exact decide_eq_false (by omega)
end
section
variable {X:Cx}
def AH:V→List V→Hp→VK→Prop:=fun x vs H Q=>∃ l xs y,x = .ref l∧vs = [y]∧H l = some (.lst xs)∧xs.length < sizeLine∧Q .non (upd H l (.lst (xs++[y])))
theorem ix:MtM X "list.append" AH:=by
 intro pins s σ H x vs v us Q I rx rv h
 obtain ⟨l,xs,y,rfl,rfl,hH,hz,q⟩:=h
 cases rx
 obtain ⟨u,rfl,ru⟩:=rv.one
 obtain ⟨z,its,n,r,hl,e⟩:=I.lstM hH
 refine call_meets F.slot_list_append ⟨_,e,rfl⟩ F.entry_list_append (F.args_list_append_2 _ _) (PySem.list_append l its.toArray n u (by rw [List.size_toArray]; omega)) ⟨e,?_⟩
 refine ⟨.non,_,I.lset (its':=its++[u]) hH e (by simp) (r.append (.cons ru .nil)) ?_,rfl,q⟩
 rw [List.length_append,List.length_singleton]
 omega
def AK:V→List V→Hp→VK→Prop:=fun x vs H Q=>∃ l b xs zs,x = .ref l∧vs = [.ref b]∧H l = some (.lst xs)∧H b = some (.lst zs)∧xs.length + zs.length≤sizeLine∧Q .non (upd H l (.lst (xs++zs)))
theorem rb:MtM X "list.extend" AK:=by
 intro pins s σ H x vs v us Q I rx rv h
 obtain ⟨l,b,xs,zs,rfl,rfl,hH,hB,hz,q⟩:=h
 cases rx
 obtain ⟨u,rfl,ru⟩:=rv.one
 cases ru
 obtain ⟨z,its,n,r,hl,e⟩:=I.lstM hH
 obtain ⟨z2,its2,n2,r2,hl2,e2⟩:=I.lstM hB
 have hsz:its.toArray.size + its2.toArray.size≤sizeLine:=by rw [List.size_toArray,List.size_toArray]; omega
 have hlong:¬ (!its.toArray.isEmpty && Builtin.List.listTooLong (its.toArray.size + its2.toArray.size)) = true:=by
  rw [oM hsz,Bool.and_false]
  exact Bool.false_ne_true
 refine call_meets F.slot_list_extend ⟨_,e,rfl⟩ F.entry_list_extend (F.args_list_extend_2 _ _)
  (AutoSeq1.list_extend_list_list_0 l its.toArray n b its2.toArray n2 hlong (by rw [List.size_toArray]; omega) (by omega)) ⟨e,e2,?_⟩
 refine ⟨.non,_,I.lset (its':=its++its2) hH e (by simp) (r.append r2) ?_,rfl,q⟩
 rw [List.length_append]
 omega
def rRep:R2:=fun x y H Q=>∃ l k xs,x = .ref l∧y = .int k∧H l = some (.lst xs)∧-(2 ^ 63)≤k∧k < 2 ^ 63∧xs.length * k.toNat≤sizeLine ∧
 ∀ p,H p = none→Q (.ref p) (upd H p (.lst (List.replicate k.toNat xs).flatten))
theorem uQ {α : Type} (xs:List α) (k:Nat):(List.replicate k xs).flatten.length = k * xs.length:=by
 induction k with
 | zero=>simp
 | succ k ih=>rw [List.replicate_succ,List.flatten_cons,List.length_append,ih,Nat.succ_mul,Nat.add_comm]
theorem DL:OpR X (binaryOp .Mult) rRep:=by
 intro pins s σ H x y v u Q I rx ry h
 obtain ⟨l,k,xs,rfl,rfl,hH,h1,h2,hz,q⟩:=h
 cases rx
 obtain ⟨t,rfl⟩:=ry
 obtain ⟨z,its,n,r,hl,e⟩:=I.lstM hH
 have hlen:its.toArray.size * k.toNat≤sizeLine:=by rw [List.size_toArray,←hl]; exact hz
 have hcap:¬ its.toArray.size * k.toNat > (2 ^ 63 - 1) / 8:=by
  have:(sizeLine:Nat)≤(2 ^ 63 - 1) / 8:=by decide
  omega
 have hfit:¬ (!Builtin.List.listFitsIndex k) = true:=by
  rw [fitsIndex_both h1 h2]
  exact Bool.false_ne_true
 have hlong:¬ Builtin.List.listTooLong (its.toArray.size * k.toNat) = true:=by
  rw [oM hlen]
  exact Bool.false_ne_true
 have hnew:List.foldl (fun x1 x2=>x1++x2) #[] (List.replicate (if its.toArray.isEmpty = true then 0 else k.toNat) its.toArray) = (List.replicate k.toNat its).flatten.toArray:=by
  have f0:∀ m:Nat,List.foldl (fun x1 x2=>x1++x2) #[] (List.replicate m its.toArray) = (List.replicate m its).flatten.toArray:=fun m=>by
   have:=ij its m []
   rw [List.nil_append] at this
   exact this
  rw [f0]
  cases its with
  | nil=>simp
  | cons a r'=>rw [if_neg (by simp)]
 refine wpAny_binaryOp_repeat_ref (T := "list") (U := "int") (by decide) ⟨_,e,rfl⟩ (fun s'=>typeIs_int s' k t) noFill_list_mul F.fills_int_mul F.slot_int_rmul repeat_list F.slot_int_index.lookup
  (call_meets F.slot_int_rmul (typeIs_int s k t) F.entry_int_rmul (F.args_int_rmul_2 _ _) (int___rmul___int_list k t l its.toArray n)
   ⟨e,rfl,⟨_,e,rfl⟩,call_meets F.slot_list_mul ⟨_,e,rfl⟩ F.entry_list_mul (F.args_list_mul_2 _ _) (AutoListH.list___mul___list_int_3 l its.toArray n k t hfit hcap hlong) ⟨e,?_⟩⟩)
 rw [hnew]
 exact ⟨.ref _,_,I.lnew (t':=s.toks) (r.rep k.toNat) (by rw [uQ,Nat.mul_comm]; exact hz),rfl,q _ I.fresh⟩
end
end L2
namespace Att
open PySem PySem.W PySem.Calls PyProof.Rows
theorem ja {P:Params} {h:Heap}:∀ (ns:List Int) (vs:List Value),WellAll P h vs (ns.map WData.int)→IntsAre vs ns:=by
 intro ns
 induction ns with
 | nil =>
  intro vs w
  rw [List.map_nil] at w
  cases w
  exact .nil
 | cons n ns ih =>
  intro vs w
  rw [List.map_cons] at w
  cases w with
  | cons a b =>
   cases a
   exact .cons _ _ (ih _ b)
theorem ut {l:OpenLaw} {n:Nat} (hn:l.most = some n) {P:Params} {h:Heap} {args:List WData} {vals:List Value}
  (hpre:l.row.toRowW.claim.pre args = true) (hwl:WellAll P h vals args) :
  ∃ a vs ns,vals = [Value.ref a]∧args = [WData.list (ns.map WData.int)]∧h.get? a = some { cls:=.type "list",data:=.seq vs.toArray }∧IntsAre vs ns∧ns.length≤n:=by
 have hsh:WShape.hasAll [] args [.list .int] = true:=(pre_splitW hpre).1
 have hc:l.pre.holds [] { args:=args } = true:=(pre_splitW hpre).2
 obtain ⟨d,r,rfl,h1,h2⟩:=hasAllW_cons hsh
 obtain rfl:=hasAllW_nil h2
 obtain ⟨xs,rfl,h3⟩:=hasW_list h1
 obtain ⟨ns,rfl⟩:=items_int h3
 have hlen:ns.length≤n:=by
  unfold OpenLaw.pre at hc
  have h4:(WTm.not (.lt (.lit (.int (n:Int))) (.len (.arg 0)))).holds [] { args:=[.list (ns.map .int)] } = true:=by
   have h4:=(holds_andW hc).1
   rw [hn] at h4
   exact h4
  have h5:=condW_of h4 (w_not (w_lt w_lit (w_len_list (w_arg rfl))))
  rw [List.length_map] at h5
  refine Nat.le_of_not_lt fun q=>?_
  have q':(n:Int) < ((ns.length:Nat):Int):=by omega
  first
   | (rw [decide_eq_true q'] at h5; exact absurd h5 (by decide))
   | (simp at h5; omega)
 cases hwl with
 | cons w1 w2 =>
  cases w2
  cases w1 with
  | list ho hall=>exact ⟨_,_,ns,rfl,rfl,ho,ja ns _ hall,hlen⟩
theorem uK (l:OpenLaw) (args:List WData):l.row.toRowW.claim.post args (.bool true) args = true :=
 postW_of (r:=l.row.toRowW) (X:=(true == true))
  (show WShape.has [] (.bool true) .bool = true by first | rfl | decide | simp [WShape.has,WShape.arms,WShape.armsAll])
  (show (WTm.eq .res (.lit (.bool true))).value [] { args:=args,res:=some (.bool true),after:=args } = some (.bool (true == true)) from w_eq_bool (w_res rfl) w_lit) rfl
theorem attach_call {l:OpenLaw} {n:Nat} {q:Program} {loose:List Str} {XP:(Str→Option Value)→Heap→Prop} {YP:World→Heap→Prop} {d:DefRec}
  (hn:l.most = some n) (hdf:d.params.defaults = [])
  (call:∀ (w:World) (s₀ s₁ : Shared) (mg mb:Str→Option Value) (fa:Addr) (o:Obj) (pm cd doc:Value) (a:Addr) (vs:List Value) (ns:List Int),
   Ground q loose [] XP w s₀ mg mb s₁.heap→YP w s₁.heap →
   s₁.heap.get? fa = some o→o.data = .func (docDef d.name d.params d.body d.scope pm cd doc)→s₁.heap.CodeRec cd d.name→mg d.name = some (.ref fa) →
   s₁.heap.get? a = some { cls:=.type "list",data:=.seq vs.toArray }→IntsAre vs ns→ns.length≤n→s₁.gens = #[] →
   codeAny (model l.prog w) callerA (.call (.ref fa) ⟨[.ref a],[]⟩) (fun r s'=>r = .ok (.ret (.bool true))∧OldK s₁.heap s'.heap∧s'.os = s₁.os∧AllBare s'.gens) s₁) :
  WalkO q loose XP YP l.row.toRowW d [] (fun f vs=>PySem.call f vs):=by
 intro w s₀ s₁ mg mb G Y fa o pm cd doc dV kV ho hd hcd hD hmg hg args vals as hpre hlay hrd hwl hlo
 obtain rfl:dV = .none:=Dflts.none hD hdf
 obtain rfl:kV = .none:=Dflts.noKw hD
 obtain ⟨a,vs,ns,rfl,rfl,hobj,hints,hlen⟩:=ut hn hpre hwl
 refine enter_call (codeAny_mono (call w s₀ s₁ mg mb fa o pm cd doc a vs ns G Y ho (fd_plain hd) hcd hmg hobj hints hlen hg) fun r s' hq=>?_)
 obtain ⟨rfl,h2,h3,h4⟩:=hq
 exact ⟨.inl ⟨.bool true,.bool true,[],rfl,fun _=>rfl,.bool true,uK l _,fun _=>⟨List.Pairwise.nil,fun _ hm=>(nomatch hm)⟩⟩,h2,h3,h4⟩
end Att
namespace L2
open PySem PySem.Spec PyProof.Rows
theorem lY:∀ {vs:List Value} {ns:List Int},IntsAre vs ns→Vals (ns.map V.int) vs
 | _,_,.nil=>.nil
 | _,_,.cons n t h=>.cons ⟨t,rfl⟩ (lY h)
def Only (H:Hp):Prop:=∀ b,H b = none∨∃ o xs,H b = some (.frz o (.lst xs))
theorem xX {P:Program} {w:World} {K:PySem.W.Frag} {mg mb:Str→Option Value} {CX:CXT} {k:Nat} {fa a:Addr} {fd:FuncData} {x:Str} {sp:Sp} {s₁ : Shared} {vs:List Value} {ns:List Int}
  (KX:K.In s₁.heap) (hns:s₁.heap.Ns mainGlobals mg) (hb:s₁.heap.Ns builtinsNs mb) (hbb:∀ x:Str,x ≠ "__name__" → mb x = bootBuiltins x) (hlim:s₁.heap.NoLimit) (hsy:∃ m,s₁.heap.Ns sysModules m) (hg:s₁.gens = #[])
  (ha:s₁.heap.get? a = some { cls:=.type "list",data:=.seq vs.toArray }) (hi:IntsAre vs ns) (hl:ns.length≤sizeLine) (hr:Room k callerA)
  (F:∀ base:Heap,K.In base→base.Ns mainGlobals mg→FnOk P w K mg base CX k fa fd [x] sp) (hbind:∀ (s:Shared) (u:Value),BindsTo s fd ⟨[u],[]⟩ [(x,u)])
  (hsp:∀ H:Hp,Only H→SqL K H a (ns.map V.int)→sp [.ref a] H (fun v _=>v = .bl true) fun _ _ _=>False)
  (hCX:∀ H e s',CX [] H s₁ (fun _ _ _=>False) e s'→False) :
  codeAny (model P w) callerA (.call (.ref fa) ⟨[.ref a],[]⟩) (fun r s'=>r = .ok (.ret (.bool true))∧OldK s₁.heap s'.heap∧s'.os = s₁.os∧AllBare s'.gens) s₁:=by
 have rv:=lY hi
 have lenV:=hi.length
 have core:∀ H:Hp,Only H→SqL K H a (ns.map V.int)→HOk P w H s₁.heap→(∀ b,H b≠none→b = a)→(H a≠none→K.lookup a = none) →
   codeAny (model P w) callerA (.call (.ref fa) ⟨[.ref a],[]⟩) (fun r s'=>r = .ok (.ret (.bool true))∧OldK s₁.heap s'.heap∧s'.os = s₁.os∧AllBare s'.gens) s₁:=by
  intro H hO hS hok hA hK
  have base_of:∀ {b:Addr} {o:Obj},s₁.heap.get? b = some o→H b = none→(hidT s₁.heap H).get? b = some o:=fun e n=>vN e n
  have noA:∀ {b:Addr} {o:Obj} {es:Array DictEntry} {ep:Nat},s₁.heap.get? b = some o→o.data = .dict es ep→H b = none:=fun {b o es ep} e d=>by
   cases q:H b with
   | none=>rfl
   | some u =>
    have e':b = a:=hA b (by rw [q]; simp)
    subst e'
    rw [ha] at e; cases e
    have d':Data.seq vs.toArray _ = Data.dict es ep:=d
    cases d'
  have nsK:∀ {b:Addr} {m:Str→Option Value},s₁.heap.Ns b m→(hidT s₁.heap H).Ns b m:=fun {b m} ⟨o,es,ep,e,d,r⟩=>⟨o,es,ep,base_of e (noA e d),d,r⟩
  have hKb:K.In (hidT s₁.heap H):=fun b o e=>base_of (KX b o e) (by
   cases q:H b with
   | none=>rfl
   | some u =>
    have e':b = a:=hA b (by rw [q]; simp)
    subst e'
    rw [hK (by rw [q]; simp)] at e; cases e)
  have hM:Mod K mg (hidT s₁.heap H):=⟨hKb,nsK hns,⟨mb,nsK hb,hbb⟩,let ⟨mc,h1,h2⟩:=hlim; ⟨mc,nsK h1,h2⟩,let ⟨m,h⟩:=hsy; ⟨m,nsK h⟩⟩
  have e0:Env0 P w K mg (hidT s₁.heap H) callerA [] s₁ H:=⟨rfl,hM,fun b o e=>Ap e,Nat.le_of_eq (sE _ _),trivial,fun b hb=>absurd (show b∈([]:List Addr) from hb) (by simp),hok,.of_eq hg⟩
  refine codeAny_mono ((F _ hKb (nsK hns)).run callerA [] s₁ H ⟨[.ref a],[]⟩ [.ref a] [.ref a] _ _ hr e0 (hbind s₁ (.ref a)) (.cons rfl .nil) (hsp H hO hS)) fun r s' h=>?_
  cases r with
  | error e=>exact (hCX H e s' h).elim
  | ok fl =>
   cases fl with
   | next=>exact False.elim h
   | brk=>exact False.elim h
   | cont=>exact False.elim h
   | ret u =>
    obtain ⟨v,H',os,bare,un,hok',r',q⟩:=h
    have q':v = .bl true:=q
    subst q'
    obtain rfl:u = Value.bool true:=r'
    refine ⟨rfl,OldK.of_keep fun b o e=>?_,os,bare⟩
    cases q:H b with
    | none=>exact un.keep b o e q (by intro z; exact absurd (show b∈([]:List Addr) from z) (by simp)) (by simp)
    | some u =>
     rcases hO b with z | ⟨ob,xs,z⟩
     ·rw [q] at z; cases z
     ·have z2:=un.frzs b ob _ z
      obtain ⟨e1,_⟩:=hok b _ z
      obtain ⟨e2,_⟩:=hok' b _ z2
      rw [e] at e1; cases e1
      exact e2
 cases hk:K.lookup a with
 | some o =>
  have e:=KX a o hk
  rw [ha] at e
  cases e
  refine core (fun _=>none) (fun _=>.inl rfl) (.inr ⟨_,vs.toArray,_,hk,rfl,rfl,rfl,by rw [List.size_toArray,lenV]; exact hl,by simpa using rv⟩) (fun b u z=>by have z':(none:Option HO) = some u:=z; cases z') (fun b z=>absurd rfl z) fun z=>absurd rfl z
 | none =>
  refine core (fun b=>if b = a then some (.frz { cls:=.type "list",data:=.seq vs.toArray } (.lst (ns.map V.int))) else none) (fun b=>?_) (.inl (.inr ⟨{ cls:=.type "list",data:=.seq vs.toArray },if_pos rfl⟩)) (fun b u z=>?_) (fun b z=>?_) fun _=>hk
  ·by_cases hb:b = a
   ·exact .inr ⟨_,_,if_pos hb⟩
   ·exact .inl (if_neg hb)
  ·by_cases hb:b = a
   ·have z':=(if_pos hb).symm.trans z
    cases z'
    subst hb
    exact ⟨ha,by rw [List.length_map]; exact hl,vs,_,rv,ha⟩
   ·have z':=(if_neg hb).symm.trans z
    cases z'
  ·by_cases hb:b = a
   ·exact hb
   ·exact absurd (if_neg hb) z
theorem AG {l:PySem.W.OpenLaw} {n k:Nat} {q:Program} {loose:List Str} {XP:(Str→Option Value)→Heap→Prop} {YP:World→Heap→Prop} {d:DefRec} {K:Params→PySem.W.Frag} {CX:World→CXT} {sp:World→Sp} {x:Str}
  (hq:importsNone q = true) (hn:l.most = some n) (hn2:n≤sizeLine) (hdf:d.params.defaults = []) (hr:Room k callerA)
  (hY:∀ (w:World) (h:Heap),YP w h→(K w.params).In h)
  (F:∀ (w:World) (mg:Str→Option Value) (fa:Addr) (h:Heap),(K w.params).In h→h.Ns mainGlobals mg→mg d.name = some (.ref fa) →
   ∃ fd:FuncData,(∀ (s:Shared) (u:Value),BindsTo s fd ⟨[u],[]⟩ [(x,u)]) ∧
    ∀ base:Heap,(K w.params).In base→base.Ns mainGlobals mg→FnOk l.prog w (K w.params) mg base (CX w) k fa fd [x] (sp w))
  (hsp:∀ (w:World) (H:Hp) (a:Addr) (ns:List Int),ns.length≤n→Only H→SqL (K w.params) H a (ns.map V.int)→sp w [.ref a] H (fun v _=>v = .bl true) fun _ _ _=>False)
  (hCX:∀ (w:World) (H:Hp) (s:Shared) (e:Value) (s':Shared),CX w [] H s (fun _ _ _=>False) e s'→False) :
  PySem.W.WalkO q loose XP YP l.row.toRowW d [] (fun f vs=>PySem.call f vs):=by
 refine Att.attach_call hn hdf fun w s₀ s₁ mg mb fa o pm cd doc a vs ns G Y ho hd hcd hmg hobj hints hlen hg=>?_
 have KX:=hY w _ Y
 obtain ⟨fd,hb,hF⟩:=F w mg fa _ KX G.T.g hmg
 exact xX KX G.T.g G.T.b G.T.builtins G.T.nolimit (let ⟨m,h,_⟩:=(G.T.seer hq).mods; ⟨m,h⟩) hg hobj hints (Nat.le_trans hlen hn2) hr hF hb (fun H hO hS=>hsp w H a ns hlen hO hS) fun H e s'=>hCX w H s₁ e s'
def cg (s:Stmt):Arguments:=match s with
 | .FunctionDef _ a _ _ _ _ _ _ _ _=>a
 | _=>{ posonlyargs:=[],args:=[],vararg:=none,kwonlyargs:=[],kw_defaults:=[],kwarg:=none,defaults:=[] }
def bh (s:Stmt):List Stmt:=match s with
 | .FunctionDef _ _ b _ _ _ _ _ _ _=>b
 | _=>[]
def ab (s:Stmt):Scope:=match s with
 | .FunctionDef _ _ _ _ _ _ sc _ _ _=>sc
 | _=>{ kind:=.function,names:=[],isGenerator:=false,isCoroutine:=false }
abbrev CX0:CXT:=fun _ _ _ _ _ _=>False
abbrev E0:XK:=fun _ _ _=>False
theorem wm {X:Cx}:gG CX0 X E0:=fun _ _ _ _ _ _ _ h=>h.elim
structure Fun (K:PySem.W.Frag) (x qual:Str) (st:Stmt) (f:Addr) (fd:FuncData):Prop where
 ex:∃ (oc:Value) (od:Option Addr) (kV doc pm:Value) (an:Option Addr) (cdv ct:Value) (osl:Array (Option Value)),
  fd = PySem.W.fnOf x qual (cg st) (bh st) (ab st) .none kV doc pm an cdv ct∧K.lookup f = some ⟨oc,od,.func fd,osl⟩∧PySem.W.codeIn K cdv qual = true
 kp:PySem.W.keepIn K (.ref f) = true
section
variable {P:Program} {w:World} {K:PySem.W.Frag} {mg:Str→Option Value} {base:Heap}
theorem Fun.ok {x qual:Str} {st:Stmt} {f:Addr} {fd:FuncData} {N ps:List Str} {k:Nat} {sp:Sp} (F:Fun K x qual st f fd) (S:ak N ps (ab st)) (len:∀ vs H Q E,sp vs H Q E→vs.length = ps.length)
  (hbody:∀ (cdv:Value) (A:Around) (outer:List Env) (s:Shared) (H:Hp) (vs:List V) (Q:VK) (E:XK),Room k (A.deeper (envOfC qual (ab st) s.heap.objs.size f cdv))→sp vs H Q E →
   ∃ t,PSs (cxOf CX0 P w K mg base N qual (ab st) f cdv A outer s H E).nox (bh st) t∧t { nx:=fun _ H'=>Q .non H',rt:=Q } (start N vs) H):FnOk P w K mg base CX0 (k + 1) f fd ps sp:=by
 obtain ⟨oc,od,kV,doc,pm,an,cdv,ct,osl,rfl,lk,hcd⟩:=F.ex
 refine Ky lk hcd S len fun A outer s H vs Q E hr hsp=>?_
 obtain ⟨t,h,q⟩:=hbody cdv A outer s H vs Q E hr hsp
 exact ⟨t,h.nox,q⟩
theorem Fun.binds {x qual:Str} {st:Stmt} {f:Addr} {fd:FuncData} {ps:List Str} (F:Fun K x qual st f fd)
  (h:∀ (kV doc pm:Value) (an:Option Addr) (cdv ct:Value) (us:List Value),us.length = ps.length→bindArgs (PySem.W.fnOf x qual (cg st) (bh st) (ab st) .none kV doc pm an cdv ct) ⟨us,[]⟩ = pure (ps.zip us)):Binds K fd ps []:=by
 obtain ⟨oc,od,kV,doc,pm,an,cdv,ct,osl,rfl,lk,hcd⟩:=F.ex
 exact .all (h kV doc pm an cdv ct)
theorem lv {x qual:Str} {st:Stmt} {f:Addr} {oc:Value} {od an:Option Addr} {osl:Array (Option Value)} {kV doc pm cdv ct:Value} (l:K.lookup f = some ⟨oc,od,.func (PySem.W.fnOf x qual (cg st) (bh st) (ab st) .none kV doc pm an cdv ct),osl⟩)
  (c:PySem.W.codeIn K cdv qual = true) (k:PySem.W.keepIn K (.ref f) = true):Fun K x qual st f (PySem.W.fnOf x qual (cg st) (bh st) (ab st) .none kV doc pm an cdv ct):=⟨⟨oc,od,kV,doc,pm,an,cdv,ct,osl,rfl,l,c⟩,k⟩
end
theorem iteF {A B:Prop} (h:B):if false = true then A else B:=by
 rw [if_neg Bool.false_ne_true]
 exact h
theorem iteT {A B:Prop} (h:A):if true = true then A else B:=by
 rw [if_pos rfl]
 exact h
def bp (X:Cx) (scope:Scope) (cl:List (Str×Addr)) (N:List Str) (s:Shared) (H:Hp) (C:Addr) (ex:List Addr):Cx where
 prog:=X.prog
 w:=X.w
 K:=X.K
 mg:=X.mg
 base:=X.base
 A:=X.A
 N:=N
 s₀:=s
 H₀:=H
 env:=compEnvC scope cl C X.env
 outer:=X.stack
 stack:=X.stack
 ex:=ex
 fn:=fun _=>false
 calm:=X.calm
 eb:=X.eb
 pn:=[]
 xe:=fun _ _=>False
theorem ga {env:Env}:∀ {names:List (Str×NameKind)} {acc:List (Str×Addr)},(∀ y∈names,y.2 = .free→∃ c,env.cells.lookup y.1 = some c)→(∀ x c,acc.lookup x = some c→env.cells.lookup x = some c) →
  ∃ cl,(forIn names acc fun (x:Str×NameKind) (cs:List (Str×Addr))=>if (x.2 == NameKind.free) = true then do let c ← cellOf env x.1; pure (ForInStep.yield ((x.1,c) :: cs)) else pure (ForInStep.yield cs):Sem (List (Str×Addr))) = pure cl ∧
   (∀ x c,cl.lookup x = some c→env.cells.lookup x = some c)∧(∀ y∈names,y.2 = .free→∃ c,cl.lookup y.1 = some c)∧(∀ x,(∃ c,acc.lookup x = some c)→∃ c,cl.lookup x = some c)
 | [],acc,_,ha=>⟨acc,rfl,ha,fun y hy=>absurd hy (by simp),fun _ h=>h⟩
 | (n,k) :: r,acc,h,ha=>by
  rw [List.forIn_cons]
  by_cases hk:k = .free
  ·subst hk
   obtain ⟨c,hc⟩:=h (n,.free) List.mem_cons_self rfl
   have hc':env.cells.lookup n = some c:=hc
   have e1:cellOf env n = pure c:=by unfold cellOf; rw [hc']
   obtain ⟨cl,e2,h2,h3,h4⟩:=ga (env:=env) (names:=r) (acc:=(n,c) :: acc) (fun y hy=>h y (List.mem_cons_of_mem _ hy)) (fun x d hx=>by
    rw [List.lookup_cons] at hx
    cases hb:x == n with
    | true=>rw [hb] at hx; cases hx; rw [eq_of_beq hb]; exact hc'
    | false=>rw [hb] at hx; exact ha x d hx)
   refine ⟨cl,?_,h2,fun y hy hyk=>?_,fun x hx=>h4 x ?_⟩
   ·simp only [beq_self_eq_true,if_true,e1,pure_bind]
    exact e2
   ·obtain rfl | hy:=List.mem_cons.mp hy
    ·exact h4 n ⟨c,by rw [List.lookup_cons]; simp⟩
    ·exact h3 y hy hyk
   ·obtain ⟨d,hd⟩:=hx
    rw [List.lookup_cons]
    cases hb:x == n with
    | true=>exact ⟨c,rfl⟩
    | false=>exact ⟨d,hd⟩
  ·have hb:(k == NameKind.free) = false:=by simpa using hk
   obtain ⟨cl,e2,h2,h3,h4⟩:=ga (env:=env) (names:=r) (acc:=acc) (fun y hy=>h y (List.mem_cons_of_mem _ hy)) ha
   refine ⟨cl,?_,h2,fun y hy hyk=>?_,h4⟩
   ·simp only [hb,Bool.false_eq_true,if_false,pure_bind]
    exact e2
   ·obtain rfl | hy:=List.mem_cons.mp hy
    ·exact absurd hyk hk
    ·exact h3 y hy hyk
theorem fi {env:Env} {scope:Scope} (h:∀ y∈scope.names,y.2 = .free→∃ c,env.cells.lookup y.1 = some c) :
  ∃ cl,closureFor scope env = pure cl∧(∀ x c,cl.lookup x = some c→env.cells.lookup x = some c)∧∀ y∈scope.names,y.2 = .free→∃ c,cl.lookup y.1 = some c:=by
 obtain ⟨cl,e,h1,h2,_⟩:=ga (env:=env) (names:=scope.names) (acc:=[]) h (fun x c hx=>by cases hx)
 refine ⟨cl,?_,h1,h2⟩
 simp only [closureFor]
 have e':=congrArg (fun (t:Sem (List (Str×Addr)))=>t >>= fun cs=>pure cs) e
 simp only [pure_bind,bind_pure] at e' ⊢
 exact e'
def PTs (X:Cx) (ifs:List Expr) (t:TT):Prop :=
 ∀ (pins:List (Addr×Obj)) (s:Shared) (σ : St) (H:Hp) (Q:Bool→Hp→Prop),Inv X pins σ H s→t σ H Q →
  wpAny (model X.prog X.w) X.A (forIn ifs true fun c r=>if r = true then do let ok ← isTrue c X.env (eval c X.env); pure (ForInStep.yield ok) else pure (ForInStep.yield r)) (TP X pins σ Q) X.xe s
def zk:TT:=fun _ H Q=>Q true H
theorem Cf {X:Cx}:PTs X [] zk:=fun _ _ _ H _ I h=>wpAny_tests_nil ⟨H,I,h⟩
def PB (X:Cx) (bd:Sem PUnit) (t:TS):Prop :=
 ∀ (pins:List (Addr×Obj)) (s:Shared) (σ : St) (H:Hp) (D:Ends),Inv X pins σ H s→t D σ H→wpAny (model X.prog X.w) X.A bd (fun _ s'=>∃ σ' H',Inv X pins σ' H' s'∧D.nx σ' H') X.xe s
def sX (J:It) (g:TG) (tb:TS):TS:=fun D σ H=>∃ W:Nat→Nat→St→Hp→Prop,(∃ m,W 0 m σ H)∧∀ i m σ H,W i m σ H →
 (J.stop i H∧D.nx σ H)∨(J.go i H∧∃ N:St→Hp→Prop,(∀ σ' H',N σ' H'→∃ m',m' < m∧W (i + 1) m' σ' H')∧∀ x H',J.yld i H x H'→g x σ H' fun σ2 H2=>tb { D with nx:=N,ct:=N,bk:=D.nx } σ2 H2)
def tIfT (tt:TT) (tb:TS):TS:=fun D σ H=>tt σ H fun b H1=>if b = true then tb D σ H1 else D.nx σ H1
def u8 (l:Addr) (te:TE):TS:=fun D σ H=>te σ H fun x H1=>∃ xs,H1 l = some (.lst xs)∧xs.length < sizeLine∧D.nx σ (upd H1 l (.lst (xs++[x])))
theorem uA {X:Cx} {elt:Expr} {gens:List Comprehension} {scope:Scope} {pos:Pos} {d:Nat} {it:Addr} {acc:Value} {tg:Expr} {ipos:Pos} {ifs:List Expr} {bd:Sem PUnit} {g:TG} {tt:TT} {tb:TS} {J:It} {fp:List Addr} {tn:Nat→Heap→Prop}
  (hturn:compTurn (.ListComp elt gens scope pos) d (.ref it) acc X.env = (do
   standAt ipos
   match ← pyNext (.ref it) with
   | none=>pure (.done .next)
   | some v =>
    letOwnedTupleGo tg (.ref it) v
    assign tg X.env v
    let mut ok:=true
    for c in ifs do
     if ok then ok ← isTrue c X.env (eval c X.env)
    if ok then bd
    again (.compLoop (.ListComp elt gens scope pos) d (.ref it) acc X.env)))
  (hx:X.xe = fun _ _=>False) (hc:X.calm = true) (T:Turn X.prog X.w X.K tg J fp it tn) (hg:PG X tg g) (ht:PTs X ifs tt) (hb:PB X bd tb)
  {pins:List (Addr×Obj)} {s:Shared} {σ : St} {H:Hp} {D:Ends} (I:Inv X pins σ H s) (st:tn 0 s.heap) (f:∀ b∈fp,FpOk X pins H b) (h:sX J g (tIfT tt tb) D σ H) :
  codeAny (model X.prog X.w) X.A (.compLoop (.ListComp elt gens scope pos) d (.ref it) acc X.env) (fun r s'=>r = .ok .next∧∃ σ' H',Inv X pins σ' H' s'∧D.nx σ' H') s:=by
 obtain ⟨W,⟨m0,w0⟩,turn⟩:=h
 have stat:∀ {H':Hp},(∀ b∈fp,H' b = none)→∀ b∈fp,FpOk X pins H' b:=fun hn b hb=>⟨hn b hb,(f b hb).2⟩
 have nox:∀ {α : Type} {t:Sem α} {Q : α→Shared→Prop} {E:Value→Shared→Prop} {s:Shared},wpAny (model X.prog X.w) X.A t Q X.xe s→wpAny (model X.prog X.w) X.A t Q E s:=fun h=>wpAny_mono h (fun _ _ q=>q) fun _ _ z=>by
  rw [hx] at z; exact z.elim
 refine codeAny_loop rfl (fun n s'=>∃ i σ' H',Inv X pins σ' H' s'∧tn i s'.heap∧(∀ b∈fp,H' b = none)∧W i n σ' H') ?_ m0 ⟨0,σ,H,I,st,fun b hb=>(f b hb).1,w0⟩
 rintro n s3 ⟨i,σ3,H3,I3,st3,fr3,w3⟩
 show wpAny _ X.A ((compTurn (.ListComp elt gens scope pos) d (.ref it) acc X.env).onRaise (fun x=>do noteFrame x X.env; theTreesLotGoes x)) _ _ s3
 refine wpAny_noted ?_
 rw [hturn]
 refine wpAny_bind (m:=standAt _) (wpAny_standAt (wpAny_bind ?_))
 rcases turn i n σ3 H3 w3 with ⟨stop,qn⟩ | ⟨go,N,hN,step⟩
 ·refine thn (T.done X rfl rfl rfl hc i pins s3 σ3 H3 _ I3 (stat fr3) st3 stop) fun r s4 ⟨hr,I4⟩=>?_
  subst hr
  exact wpAny_pure ⟨rfl,σ3,H3,I4,qn⟩
 ·refine thn (T.item X rfl rfl rfl hc i pins s3 σ3 H3 _ I3 (stat fr3) st3 go) fun r s4 ⟨u,hr,h4⟩=>?_
  subst hr
  refine wpAny_bind (thn h4 fun _ s5 ⟨x,H5,I5,r5,y5,st5,fr5⟩=>?_)
  have I5':=I5.pinned (stat fr5) (T.obj _ _ st5)
  refine wpAny_bind (nox (thn (hg _ s5 σ3 H5 x u _ I5' r5 (step x H5 y5)) fun _ s6 ⟨σ6,H6,I6,q6⟩=>?_))
  refine wpAny_bind (nox (thn (ht _ s6 σ6 H6 _ I6 q6) fun ok s7 ⟨H7,I7,q7⟩=>?_))
  have fin:∀ {σ8:St} {H8:Hp} {s8:Shared},Inv X (pins++lJ fp s5.heap) σ8 H8 s8→N σ8 H8→∃ m,m < n∧∃ i σ' H',Inv X pins σ' H' s8∧tn i s8.heap∧(∀ b∈fp,H' b = none)∧W i m σ' H':=fun {σ8 H8 s8} I8 n8=>by
   obtain ⟨m',hm,w8⟩:=hN σ8 H8 n8
   refine ⟨m',hm,i + 1,σ8,H8,I8.unpinned,T.keep _ _ _ st5 fun b hb o e=>(I8.pin (b,o) (List.mem_append_right _ (List.mem_append_right _ (d3 hb e)))).1,fun b hb=>?_,w8⟩
   obtain ⟨o,e,_⟩:=T.obj _ _ st5 b hb
   exact (I8.pin (b,o) (List.mem_append_right _ (List.mem_append_right _ (d3 hb e)))).2.1
  cases ok with
  | false =>
   rw [if_neg Bool.false_ne_true] at q7
   exact wpAny_pure ⟨rfl,fin I7 q7⟩
  | true =>
   rw [if_pos rfl] at q7
   exact wpAny_bind (nox (thn (hb _ s7 σ6 H7 _ I7 q7) fun _ s8 ⟨σ8,H8,I8,q8⟩=>wpAny_pure ⟨rfl,fin I8 q8⟩))
theorem uo {X:Cx} {elt:Expr} {te:TE} {l:Addr} (he:PE X elt te):PB X (do let _ ← call (.builtin "list.append") [.ref l,←eval elt X.env]) (u8 l te):=by
 intro pins s σ H D I h
 refine wpAny_bind (thn (he pins s σ H _ I h) fun u s1 ⟨x,H1,I1,r1,xs,hl,hz,q⟩=>?_)
 obtain ⟨hz1,its,n,rv,hv,ho⟩:=I1.lstM hl
 have hsl:s1.heap.IsList l its.toArray:=⟨_,ho,rfl,_,rfl⟩
 refine wpAny_bind (thn (Q:=fun _ s'=>∃ σ' H',Inv X pins σ' H' s'∧D.nx σ' H') ?_ fun _ s' hq=>wpAny_pure hq)
 exact thn (ix (X:=X) pins s1 σ H1 (.ref l) [x] (.ref l) [u] (fun v H'=>v = .non∧D.nx σ H') I1 rfl (.cons r1 .nil) ⟨l,xs,x,rfl,rfl,hl,hz,rfl,q⟩) fun v s' ⟨_,H',I',_,_,q'⟩=>⟨σ,H',I',q'⟩
theorem cQ (env:Env) (x:Str):∀ names:List (Str×NameKind),(names.map fun (n,k)=>if (k == NameKind.free && env.scope.kind == .function && env.kindOf n == some .cell) then (n,NameKind.cell) else (n,k)).lookup x =
  (names.lookup x).map fun k=>if (k == NameKind.free && env.scope.kind == .function && env.kindOf x == some .cell) then NameKind.cell else k
 | []=>rfl
 | (n,k) :: r=>by
  have ih:=cQ env x r
  rw [List.map_cons]
  dsimp only
  cases hx:x == n with
  | true =>
   have e:=eq_of_beq hx
   subst e
   by_cases hc:(k == NameKind.free && env.scope.kind == .function && env.kindOf x == some .cell) = true
   ·rw [if_pos hc]; simp only [List.lookup_cons,hx,Option.map_some,if_pos hc]
   ·rw [if_neg hc]; simp only [List.lookup_cons,hx,Option.map_some,if_neg hc]
  | false =>
   split
   ·simp only [List.lookup_cons,hx]; exact ih
   ·simp only [List.lookup_cons,hx]; exact ih
theorem dM {x:Str} {k:NameKind}:∀ {names:List (Str×NameKind)},names.lookup x = some k→(x,k)∈names:=fun h=>PySem.mem_of_lookup h
theorem iG {env:Env} {scope:Scope} {x:Str} (hcell:∀ y∈scope.names,y.2≠.cell) (h:(relabel scope env).names.lookup x = some .cell∨(relabel scope env).names.lookup x = some .free):scope.names.lookup x = some .free:=by
 unfold relabel at h
 simp only [cQ] at h
 cases e:scope.names.lookup x with
 | none=>rw [e] at h; rcases h with h | h <;> cases h
 | some k =>
  rw [e] at h
  simp only [Option.map_some,Option.some.injEq] at h
  have hk:k≠.cell:=hcell (x,k) (dM e)
  by_cases hf:k = .free
  ·rw [hf]
  ·have hb:(k == NameKind.free) = false:=by simpa using hf
   rw [hb] at h
   simp only [Bool.false_and,Bool.false_eq_true,if_false] at h
   rcases h with h | h
   ·exact absurd h hk
   ·rw [h]
theorem lP {env:Env} {scope:Scope} {x:Str} (h:scope.names.lookup x = some .free):(relabel scope env).names.lookup x = some .cell∨(relabel scope env).names.lookup x = some .free:=by
 unfold relabel
 simp only [cQ,h,Option.map_some]
 split
 ·exact .inl rfl
 ·exact .inr rfl
def d7 (own:List Str) (ps:List Nat) (σ : St):St:=own.map (fun _=>none)++ps.map fun i=>(σ[i]?).join
structure b8 (own fr:List Str) (scope sc:Scope):Prop where
 kind:scope.kind = .function
 nocell:∀ y∈scope.names,y.2≠.cell
 names:∀ y∈scope.names,y.2 = .local→scope.names.lookup y.1 = some .local
 there:∀ y∈scope.names,y.2 = .free→sc.names.lookup y.1 = some .cell∨sc.names.lookup y.1 = some .free
 fr:∀ x∈fr,scope.names.lookup x = some .free
section
variable {X:Cx} {scope sc:Scope} {own fr:List Str} {ps:List Nat}
theorem ly {elt tg iter:Expr} {ifs:List Expr} {rest:List Comprehension} {pos:Pos} {bdy:Env→Value→Sem PUnit} {g:TG} {tt:TT} {tb:Addr→TS} {cl:List (Str×Addr)} {R:Value→Addr→Result→Shared→Prop} {E:Value→Shared→Prop}
  (S:b8 own fr scope sc) (hsc:X.env.scope = sc) (hps:ps.map (fun i=>X.N[i]?) = fr.map some) (hc:X.calm = true) (hcl1:∀ x c,cl.lookup x = some c→X.env.cells.lookup x = some c) (hcl2:∀ y∈scope.names,y.2 = .free→∃ c,cl.lookup y.1 = some c)
  (hturn:∀ env it acc,compTurn (.ListComp elt (⟨tg,iter,ifs,0⟩ :: rest) scope pos) 0 it acc env = (do
   standAt iter.pos
   match ← pyNext it with
   | none=>pure (.done .next)
   | some v =>
    letOwnedTupleGo tg it v
    assign tg env v
    let mut ok:=true
    for c in ifs do
     if ok = true then ok ← isTrue c env (eval c env)
    if ok then bdy env acc
    again (.compLoop (.ListComp elt (⟨tg,iter,ifs,0⟩ :: rest) scope pos) 0 it acc env)))
  (hg:∀ s H C ex,PG (bp X scope cl (own++fr) s H C ex) tg g) (ht:∀ s H C ex,PTs (bp X scope cl (own++fr) s H C ex) ifs tt)
  (hb:∀ s H C ex l,PB (bp X scope cl (own++fr) s H C ex) (bdy (compEnvC scope cl C X.env) (.ref l)) (tb l))
  {pins:List (Addr×Obj)} {s:Shared} {σ : St} {H:Hp} {Q:VK} {it:Addr} {fp:List Addr} {tn:Nat→Heap→Prop} {J:It} (I:Inv X pins σ H s) (T:Turn X.prog X.w X.K tg J fp it tn) (st:tn 0 s.heap) (f:∀ b∈fp,FpOk X pins H b)
  (h:∀ l,H l = none→sX J g (tIfT tt (tb l)) { nx:=fun _ H'=>Q (.ref l) H',rt:=fun _ _=>False } (d7 own ps σ) (upd H l (.lst [])))
  (hR:∀ l C H' s',(∃ m,s'.heap.Ns C m)→Inv X pins σ H' s'→FpOk X pins H' C→Q (.ref l) H'→R (.ref l) C (.ok .next) s') :
  wpAny (model X.prog X.w) X.A (newList []) (fun acc s₃=>wpAny (model X.prog X.w) X.A (newFunctionEnv scope X.env.globals cl [] X.env.qual none .none (some X.env)) (fun cenv s₄ =>
   codeAny (model X.prog X.w) X.A (.compStart (.ListComp elt (⟨tg,iter,ifs,0⟩ :: rest) scope pos) 0 (.ref it) acc { cenv with scope:=relabel scope X.env }) (R acc cenv.locals) s₄) E s₃) E s:=by
 refine wpAny_newObj_type (wpAny_newFunctionEnv S.nocell (by intro y hy; simp at hy) (fun h₁ hns₁ hsb₁=>?_) S.kind)
 have I3:Inv X pins σ (upd H s.heap.objs.size (.lst [])) { s with heap:=s.heap.push { cls:=.type "list",data:=.seq ([]:List Value).toArray } }:=I.lnew (t':=s.toks) (ys:=[]) .nil (Nat.zero_le _)
 generalize hS3:({ s with heap:=s.heap.push { cls:=.type "list",data:=.seq ([]:List Value).toArray } }:Shared) = s3 at I3 hns₁ hsb₁ ⊢
 have hsz:s3.heap.objs.size = s.heap.objs.size + 1:=by rw [←hS3]; exact Heap.size_push _ _
 have hl:H s.heap.objs.size = none:=I.hok.fresh (Nat.le_refl _)
 have kept0:∀ b o,s.heap.get? b = some o→s3.heap.get? b = some o:=fun b o e=>by rw [←hS3]; exact Heap.get?_push_of_some _ e
 have kept1:∀ b o,s3.heap.get? b = some o→h₁.get? b = some o:=fun b o e=>hsb₁.extBut b o (Nat.ne_of_lt (Heap.lt_size e)) (Heap.get?_push_of_some _ e)
 have fpl:∀ b∈fp,b < s.heap.objs.size:=fun b hb=>by obtain ⟨o,e,_⟩:=T.obj _ _ st b hb; exact Heap.lt_size e
 have fpH:∀ b∈fp,(upd H s.heap.objs.size (.lst [])) b = none:=fun b hb=>by rw [av (Nat.ne_of_lt (fpl b hb))]; exact (f b hb).1
 have fpS:∀ b∈fp,b∉frs X.stack:=fun b hb z=>by
  rcases List.mem_cons.mp (I.stkSub b z) with e | e
  ·exact (f b hb).2.1 e
  ·exact (f b hb).2.2.1 e
 have ok':(bp X scope cl (own++fr) s3 (upd H s.heap.objs.size (.lst [])) s3.heap.objs.size fp).Ok:=by
  refine ⟨I.ok.mod,S.kind,I.ok.glob,I.ok.blt,Nat.le_refl _,fun x y c h1 h2=>I.ok.inj x y c (hcl1 x c h1) (hcl1 y c h2),fun x hx=>?_,fun x c hf=>(by cases hf),I.ok.hd,I.ok.frames,.inl rfl,fun b hb=>⟨?_,fun x c hx=>(f b hb).2.2.2.2.1 x c (hcl1 x c hx)⟩,
   fun b o e=>I3.bs b o e,Nat.le_trans I3.ok.bsz I3.sz,fun b o e hb=>?_,fun b hb=>fpS b hb,I3.stack,I3.stkFree⟩
  ·exact hcl2 (x,.free) (dM (iG S.nocell hx)) rfl
  ·exact Nat.ne_of_lt (Nat.lt_of_lt_of_le (fpl b hb) (by rw [hsz]; exact Nat.le_succ _))
  ·rcases (f b hb).2.2.2.1 with z | z
   ·exact I.ok.noex b o e z
   ·exact absurd (Nat.lt_of_lt_of_le (Heap.lt_size (I.ok.bs b o e).1) z) (Nat.lt_irrefl _)
 have I4:Inv (bp X scope cl (own++fr) s3 (upd H s.heap.objs.size (.lst [])) s3.heap.objs.size fp) [] (d7 own ps σ) (upd H s.heap.objs.size (.lst [])) { s3 with heap:=h₁,toks:=s3.toks + ([]:List (Str×Value)).length }:=by
  refine ⟨ok',rfl,I3.bare,Un.kept kept1,⟨_,hns₁,fun i x v e1 e2 e3=>?_⟩,fun x c e=>?_,I3.hok.fresh (Nat.le_refl _),fun x c e=>I3.freeC x c (hcl1 x c e),fun p hp=>absurd (show p∈([]:List (Addr×Obj)) from hp) (by simp),I3.hok.kept kept1,?_⟩
  ·have e1':(own++fr)[i]? = some x:=e1
   unfold d7 at e2
   by_cases hi:i < own.length
   ·rw [List.getElem?_append_left (by simpa using hi),List.getElem?_map] at e2
    cases q:own[i]? with
    | none=>rw [q] at e2; cases e2
    | some z=>rw [q] at e2; cases e2
   ·rw [List.getElem?_append_right (by simpa using hi),List.length_map,List.getElem?_map] at e2
    rw [List.getElem?_append_right (by simpa using hi)] at e1'
    cases q:ps[i - own.length]? with
    | none=>rw [q] at e2; cases e2
    | some p =>
     rw [q] at e2
     have e2':(σ[p]?).join = some v:=Option.some.inj e2
     have hσ : σ[p]? = some (some v):=by
      cases z : σ[p]? with
      | none=>rw [z] at e2'; cases e2'
      | some w=>rw [z] at e2'; cases w with
       | none=>cases e2'
       | some w=>cases e2'; rfl
     have hN:X.N[p]? = some x:=by
      have z:=congrArg (fun l=>l[i - own.length]?) hps
      simp only [List.getElem?_map,q,e1',Option.map_some,Option.some.injEq] at z
      exact z
     have hx:x∈fr:=List.mem_of_getElem? e1'
     have hfr:=S.fr x hx
     have hsee:=S.there (x,.free) (dM hfr) rfl
     obtain ⟨m,hn,hlk⟩:=I3.loc
     obtain ⟨u,ru,lk⟩:=hlk p x v hN hσ (by rw [hsc]; exact .inr hsee)
     refine ⟨u,ru,.inr ⟨lP hfr,?_⟩⟩
     rcases lk with ⟨k,_⟩ | ⟨_,c,ec,z⟩
     ·have k':X.env.scope.names.lookup x = some .local:=k
      rw [hsc] at k'
      rcases hsee with q2 | q2 <;> (rw [k'] at q2; cases q2)
     ·obtain ⟨c',ec'⟩:=hcl2 (x,.free) (dM hfr) rfl
      have:=hcl1 x c' ec'
      rw [ec] at this
      cases this
      obtain ⟨o,ho,hd⟩:=z
      exact ⟨c,ec',o,kept1 _ _ ho,hd⟩
  ·obtain ⟨v,o,ho,hd⟩:=I3.cell x c (hcl1 x c e)
   exact ⟨v,o,kept1 _ _ ho,hd⟩
  ·show (d7 own ps σ).length = (own++fr).length
   have:=congrArg List.length hps
   rw [List.length_map,List.length_map] at this
   unfold d7
   rw [List.length_append,List.length_append,List.length_map,List.length_map,this]
 have f4:∀ b∈fp,FpOk (bp X scope cl (own++fr) s3 (upd H s.heap.objs.size (.lst [])) s3.heap.objs.size fp) [] (upd H s.heap.objs.size (.lst [])) b:=fun b hb =>
  ⟨fpH b hb,(ok'.exf b hb).1,fpS b hb,.inl hb,(ok'.exf b hb).2,fun p hp=>absurd (show p∈([]:List (Addr×Obj)) from hp) (by simp)⟩
 have st4:tn 0 h₁:=T.keep 0 _ _ st fun b hb o e=>kept1 b o (kept0 b o e)
 have loop:codeAny (model X.prog X.w) X.A (.compLoop (.ListComp elt (⟨tg,iter,ifs,0⟩ :: rest) scope pos) 0 (.ref it) (.ref s.heap.objs.size) (compEnvC scope cl s3.heap.objs.size X.env)) (R (.ref s.heap.objs.size) s3.heap.objs.size) { s3 with heap:=h₁,toks:=s3.toks + ([]:List (Str×Value)).length }:=by
  refine codeAny_mono (uA (X:=bp X scope cl (own++fr) s3 (upd H s.heap.objs.size (.lst [])) s3.heap.objs.size fp) (hturn _ _ _) rfl hc T (hg _ _ _ _) (ht _ _ _ _) (hb _ _ _ _ _) I4 st4 f4 (h _ hl)) fun r s' ⟨er,σ5,H5,I5,q5⟩=>?_
  subst er
  have I6:Inv X pins σ H5 s':=I3.call' (s':=s') I5.os I5.base I5.hok I5.bare fun b hb=>⟨(f b hb).2.2.2.1,(f b hb).2.1,(f b hb).2.2.2.2.1,(f b hb).2.2.2.2.2⟩
  have hm:∃ m,s'.heap.Ns s3.heap.objs.size m:=let ⟨m,hn,_⟩:=I5.loc; ⟨m,hn⟩
  exact hR _ _ H5 s' hm I6 (I3.fpOk (Nat.le_refl _) I5.free) q5
 exact codeAny_compStart_list loop (T.self _ 0 _ _ _ st4 loop)
def Cu (wi:TI) (own:List Str) (ps:List Nat) (tl:Addr→It→TS):TE:=fun σ H Q=>wi σ H fun J H1=>∀ l,H1 l = none→tl l J { nx:=fun _ H'=>Q (.ref l) H',rt:=fun _ _=>False } (d7 own ps σ) (upd H1 l (.lst []))
def tl1 (g:TG) (tt:TT) (te:TE):Addr→It→TS:=fun l J=>sX J g (tIfT tt (u8 l te))
theorem Inv.junk {pins:List (Addr×Obj)} {σ : St} {H:Hp} {s:Shared} {C:Addr} (I:Inv X pins σ H s) (f:FpOk X pins H C) {h':Heap} (hs:Heap.SameBut C s.heap h'):Inv X pins σ H { s with heap:=h' } :=
 I.turned (t':=s.toks) (it:=C) (fun b o ne e=>(hs.2 b ne).trans e) f.1 f.2.1 f.2.2.2.1 f.2.2.2.2.1 f.2.2.2.2.2
variable {elt tg iter:Expr} {ifs:List Expr} {pos spos py:Pos} {wi:TI} {g:TG} {tt:TT} {te:TE}
theorem oI {pins:List (Addr×Obj)} {σ : St} {H:Hp} {s:Shared} (S:b8 own fr scope sc) (hsc:X.env.scope = sc) (I:Inv X pins σ H s):∀ y∈scope.names,y.2 = .free→∃ c,X.env.cells.lookup y.1 = some c:=fun y hy hk =>
 I.ok.has y.1 (by show X.env.scope.names.lookup y.1 = _∨X.env.scope.names.lookup y.1 = _; rw [hsc]; exact S.there y hy hk)
theorem wX (S:b8 own fr scope sc) (hi:PI X tg iter wi) (hg:∀ cl s H C ex,PG (bp X scope cl (own++fr) s H C ex) tg g) (ht:∀ cl s H C ex,PTs (bp X scope cl (own++fr) s H C ex) ifs tt)
  (he:∀ cl s H C ex,PE (bp X scope cl (own++fr) s H C ex) elt te) (hsc:X.env.scope = sc:=by rfl) (hps:ps.map (fun i=>X.N[i]?) = fr.map some:=by rfl) (hc:X.calm = true:=by rfl) (hs:∀ x,foldedSetIterable iter X.env x = pure x:=by intro _; rfl) :
  PE X (.ListComp elt [⟨tg,iter,ifs,0⟩] scope pos) (Cu wi own ps (tl1 g tt te)):=by
 intro pins s σ H Q I h
 obtain ⟨cl,ec,h1,h2⟩:=fi (oI S hsc I)
 rw [eval_ListComp]
 refine wpAny_comprehension_free (use:=none) rfl hs ec S.kind S.names (thn (hi pins s σ H _ I h) fun v s1 q1=>thn q1 fun itv s2 q2=>?_)
 obtain ⟨it,fp,tn,J,H2,e,I2,T,st2,f2,q⟩:=q2
 subst e
 exact ly (R:=fun acc C=>compPost (model X.prog X.w) X.A X.xe none (EP X pins σ Q) acc C) (bdy:=fun env acc=>do let _ ← call (.builtin "list.append") [acc,←eval elt env]) (tb:=fun l=>u8 l te) S hsc hps hc h1 h2 (fun env it acc=>compTurn_list elt tg iter ifs scope pos it acc env)
  (hg cl) (ht cl) (fun s H C ex l=>uo (he cl s H C ex)) I2 T st2 f2 q fun l C H' s' hm I' fk q'=>by
   obtain ⟨m,hn⟩:=hm
   exact ⟨m,hn,fun h' hs'=>⟨.ref l,H',I'.junk fk hs',rfl,q'⟩⟩
theorem ux {pins:List (Addr×Obj)} {σ : St} {H':Hp} {s':Shared} {i:Nat} {y:Str} {l C:Addr} {Q:St→Hp→Prop} {E:Value→Shared→Prop} (hN:X.N.Nodup) (hy:X.N[i]? = some y) (hlc:X.env.scope.names.lookup y = some .local) (hm:∃ m,s'.heap.Ns C m) (I:Inv X pins σ H' s') (fk:FpOk X pins H' C) (q:Q (σ.set i (some (.ref l))) H') :
  wpAny (model X.prog X.w) X.A (assign (.Name y py) X.env (.ref l)) (fun _ s''=>∃ m,s''.heap.Ns C m∧∀ h',Heap.SameBut C s''.heap h'→∃ σ' H'',Inv X pins σ' H'' { s'' with heap:=h' }∧Q σ' H'') E s':=by
 obtain ⟨m,hn⟩:=hm
 refine wpAny_assign_Name (l4 I hN hy (.inl hlc) (v:=.ref l) rfl (fun s'' I'' ⟨a,hs,ha⟩=>?_) (.inr hlc))
 have hCa:C≠a:=by
  rcases ha with ha | ha
  ·rw [ha]; exact fk.2.1
  ·exact fun z=>fk.2.2.2.2.1 _ _ ha z.symm
 exact ⟨m,hn.sameBut hs hCa,fun h' hs'=>⟨_,H',I''.junk fk hs',q⟩⟩
theorem wj {i:Nat} {y:Str} (S:b8 own fr scope sc) (hN:X.N.Nodup) (hy:X.N[i]? = some y) (hlc:X.env.scope.names.lookup y = some .local) (hi:PI X tg iter wi) (hg:∀ cl s H C ex,PG (bp X scope cl (own++fr) s H C ex) tg g) (ht:∀ cl s H C ex,PTs (bp X scope cl (own++fr) s H C ex) ifs tt)
  (he:∀ cl s H C ex,PE (bp X scope cl (own++fr) s H C ex) elt te) (hsw:swapsWith (.ListComp elt [⟨tg,iter,ifs,0⟩] scope pos) (some (.Name y py)) spos.line X.env = pure true:=by rfl)
  (hsc:X.env.scope = sc:=by rfl) (hps:ps.map (fun i=>X.N[i]?) = fr.map some:=by rfl) (hc:X.calm = true:=by rfl) (hs:∀ x,foldedSetIterable iter X.env x = pure x:=by intro _; rfl) :
  PS X (.Assign [.Name y py] (.ListComp elt [⟨tg,iter,ifs,0⟩] scope pos) spos) (tAsg (Cu wi own ps (tl1 g tt te)) (BX i)):=by
 intro pins s σ H D I h
 obtain ⟨cl,ec,h1,h2⟩:=fi (oI S hsc I)
 rw [show exec _ X.env = _ from exec_Assign_Name_used _ _ _ _ hsw]
 refine wpAny_bind (m:=standAt _) (wpAny_standAt (wpAny_bind ?_))
 show wpAny _ X.A (do let _ ← comprehension (.ListComp elt [⟨tg,iter,ifs,0⟩] scope pos) scope X.env _ (newList []) false (eval iter X.env) (some (assign (.Name y py) X.env))) _ _ s
 refine wpAny_bind (wpAny_mono (wpAny_comprehension_free (use:=some (assign (.Name y py) X.env)) (Q:=fun _ s'=>SP X pins D .next s') rfl hs ec S.kind S.names (thn (hi pins s σ H _ I h) fun v s1 q1=>thn q1 fun itv s2 q2=>?_)) (fun _ s' hq=>wpAny_pure (wpAny_pure hq)) fun _ _ e=>e)
 obtain ⟨it,fp,tn,J,H2,e,I2,T,st2,f2,q⟩:=q2
 subst e
 exact ly (Q:=fun v H'=>D.nx (σ.set i (some v)) H') (R:=fun acc C=>compPost (model X.prog X.w) X.A X.xe (some (assign (.Name y py) X.env)) (fun _ s'=>SP X pins D .next s') acc C) (bdy:=fun env acc=>do let _ ← call (.builtin "list.append") [acc,←eval elt env]) (tb:=fun l=>u8 l te) S hsc hps hc h1 h2 (fun env it acc=>compTurn_list elt tg iter ifs scope pos it acc env)
  (hg cl) (ht cl) (fun s H C ex l=>uo (he cl s H C ex)) I2 T st2 f2 q fun l C H' s' hm I' fk q'=>ux hN hy hlc hm I' fk q'
variable {tg2 iter2:Expr} {ifs2:List Expr} {wi2:TI} {g2:TG} {tt2:TT}
end
def FzL (K:PySem.W.Frag) (H:Hp) (a:Addr) (xs:List V):Prop :=
 (∃ o,H a = some (.frz o (.lst xs))) ∨
  ∃ (o:Obj) (its:Array Value) (n:Nat),K.lookup a = some o∧o.cls = .type "list" ∧ o.dict = none∧o.data = .seq its n∧its.size≤sizeLine∧Vals xs its.toList
theorem FzL.sq {K:PySem.W.Frag} {H:Hp} {a:Addr} {xs:List V} (h:FzL K H a xs):SqL K H a xs:=by
 rcases h with ⟨o,h⟩ | h
 ·exact .inl (.inr ⟨o,h⟩)
 ·exact .inr h
structure Kd where
 K:PySem.W.Frag
 w:World
instance:Coe Kd PySem.W.Frag:=⟨Kd.K⟩
mutual
def vy (w:World):PyData→Int
 | .int i=>hashInt i
 | .str x=>hashStr w x
 | .tuple ds=>reduceHash (Builtin.Tuple.tupleHashOf (D9 w ds))
 | _=>0
def D9 (w:World):List PyData→List Int
 | []=>[]
 | d :: ds=>vy w d :: D9 w ds
end
mutual
def hkD:PyData→Bool
 | .int _=>true
 | .str _=>true
 | .tuple ds=>hkA ds
 | _=>false
def hkA:List PyData→Bool
 | []=>true
 | d :: ds=>hkD d && hkA ds
end
def isKd (kvs:List (PyData×PyData)):Bool:=kvs.all fun kv=>match kv.1 with | .int _=>true | .str _=>true | _=>false
def yG (kvs:List (PyData×PyData)):Prop:=isKd kvs = false∧(kvs.map (·.1)).Nodup∧∀ k∈kvs.map (·.1),hkD k = true
def dXp (a:Addr) (es:List (Int×V×V)) (h:Heap):Prop :=
 (a == sysModules) = false∧es.length≤sizeLine∧∃ (o:Obj) (ents:Array DictEntry) (ep:Nat),h.get? a = some o∧o.ExactDict∧o.data = .dict ents ep ∧
  Paired (fun (e:Int×V×V) (d:DictEntry)=>d.hash = e.1∧RelV e.2.1 d.key∧RelV e.2.2 d.val) es ents.toList
abbrev dX (a:Addr) (es:List (Int×V×V)):HO:=.ext (dXp a es)
def FzD (H:Hp) (a:Addr) (es:List (Int×V×V)):Prop:=∃ o,H a = some (.frz o (dX a es))
def ClsN (K:Kd) (c:Str) (C:Addr):Prop:=PySem.W.nsIn K.K mainGlobals c = some (some (.ref C))
def J6 (K:Kd) (H:Hp) (a:Addr) (c:Str) (xs:List (Str×V)):Prop :=
 ∃ (o:Obj) (u:HO) (C:Addr),H a = some (.frz o u)∧o.cls = .ref C∧(∃ vs,o.data = .fields vs)∧ClsN K c C∧((o.dict = none∧xs = [])∨∃ (dx:Addr) (od:Obj),o.dict = some dx∧H dx = some (.frz od (.xd xs)))
def keyD:Key→PyData
 | .inl i=>.int i
 | .inr x=>.str x
def excC:List (PyData×PyData)→Option Str
 | (.none,.str c) :: _=>some c
 | _=>none
mutual
def Den (K:Kd) (H:Hp):PyData→V→Prop
 | .none,v=>v = .non
 | .bool b,v=>v = .bl b
 | .int i,v=>v = .int i
 | .str x,v=>v = .str x
 | .list ds,v=>∃ a xs,v = .ref a∧FzL K H a xs∧DenAll K H ds xs
 | .tuple ds,v=>∃ a xs,v = .ref a∧SqT K H a xs∧DenAll K H ds xs
 | .dict kvs,v=>∃ a,v = .ref a∧((∃ es,FzD H a es∧yG kvs∧DenKV K H kvs es)∨(∃ es o,H a = some (.frz o (.dK es))∧DenKK K H kvs es)∨∃ c xs,excC kvs = some c∧J6 K H a c xs∧DenXF K H kvs xs)
def DenAll (K:Kd) (H:Hp):List PyData→List V→Prop
 | [],xs=>xs = []
 | d :: ds,xs=>∃ v vs,xs = v :: vs∧Den K H d v∧DenAll K H ds vs
def DenKV (K:Kd) (H:Hp):List (PyData×PyData)→List (Int×V×V)→Prop
 | [],es=>es = []
 | (k,d) :: r,es=>∃ u v vs,es = (vy K.w k,u,v) :: vs∧Den K H k u∧Den K H d v∧DenKV K H r vs
def DenKK (K:Kd) (H:Hp):List (PyData×PyData)→List (Key×V)→Prop
 | [],es=>es = []
 | (k,d) :: r,es=>∃ kk v vs,es = (kk,v) :: vs∧(k = keyD kk∧∀ x∈vs,x.1≠kk)∧Den K H d v∧DenKK K H r vs
def DenXF (K:Kd) (H:Hp):List (PyData×PyData)→List (Str×V)→Prop
 | [],xs=>xs = []
 | (k,d) :: r,xs=>match k with
  | .str f=>∃ v vs,xs = (f,v) :: vs∧Den K H d v∧DenXF K H r vs
  | _=>DenXF K H r xs
end
structure Pers (H H':Hp):Prop where
 tups:∀ b xs,H b = some (.tup xs)→H' b = some (.tup xs)
 frzs:∀ b o u,H b = some (.frz o u)→H' b = some (.frz o u)
theorem Pers.trans {H H1 H2:Hp} (a:Pers H H1) (b:Pers H1 H2):Pers H H2:=⟨fun c xs e=>b.tups c xs (a.tups c xs e),fun c o u e=>b.frzs c o u (a.frzs c o u e)⟩
section
variable {K:Kd} {H H':Hp}
theorem FzL.mono {a:Addr} {xs:List V} (p:Pers H H') (h:FzL K H a xs):FzL K H' a xs:=by
 rcases h with ⟨o,h⟩ | h
 ·exact .inl ⟨o,p.frzs _ _ _ h⟩
 ·exact .inr h
theorem SqT.mono {a:Addr} {xs:List V} (p:Pers H H') (h:SqT K H a xs):SqT K H' a xs:=by
 rcases h with (h | ⟨o,h⟩) | h
 ·exact .inl (.inl (p.tups _ _ h))
 ·exact .inl (.inr ⟨o,p.frzs _ _ _ h⟩)
 ·exact .inr h
mutual
theorem Den.mono (p:Pers H H'):∀ {d:PyData} {v:V},Den K H d v→Den K H' d v
 | .none,_,h=>h
 | .bool _,_,h=>h
 | .int _,_,h=>h
 | .str _,_,h=>h
 | .list ds,_,h=>by
  simp only [Den] at h ⊢
  obtain ⟨a,xs,e,f,g⟩:=h
  exact ⟨a,xs,e,f.mono p,DenAll.mono p g⟩
 | .tuple ds,_,h=>by
  simp only [Den] at h ⊢
  obtain ⟨a,xs,e,f,g⟩:=h
  exact ⟨a,xs,e,f.mono p,DenAll.mono p g⟩
 | .dict kvs,_,h=>by
  simp only [Den] at h ⊢
  obtain ⟨a,e,h⟩:=h
  refine ⟨a,e,?_⟩
  rcases h with ⟨es,⟨o,f⟩,kk,g⟩ | ⟨es,o,f,g⟩ | ⟨c,xs,ec,⟨o,u,C,f1,f2,f0,f3,f4⟩,g⟩
  ·exact .inl ⟨es,⟨o,p.frzs _ _ _ f⟩,kk,DenKV.mono p g⟩
  ·exact .inr (.inl ⟨es,o,p.frzs _ _ _ f,DenKK.mono p g⟩)
  ·refine .inr <| .inr ⟨c,xs,ec,⟨o,u,C,p.frzs _ _ _ f1,f2,f0,f3,?_⟩,DenXF.mono p g⟩
   rcases f4 with f4 | ⟨dx,od,f5,f6⟩
   ·exact .inl f4
   ·exact .inr ⟨dx,od,f5,p.frzs _ _ _ f6⟩
theorem DenAll.mono (p:Pers H H'):∀ {ds:List PyData} {xs:List V},DenAll K H ds xs→DenAll K H' ds xs
 | [],_,h=>h
 | d :: ds,_,h=>by
  simp only [DenAll] at h ⊢
  obtain ⟨v,vs,e,f,g⟩:=h
  exact ⟨v,vs,e,Den.mono p f,DenAll.mono p g⟩
theorem DenKV.mono (p:Pers H H'):∀ {ds:List (PyData×PyData)} {xs:List (Int×V×V)},DenKV K H ds xs→DenKV K H' ds xs
 | [],_,h=>by simpa only [DenKV] using h
 | (k,d) :: r,_,h=>by
  simp only [DenKV] at h ⊢
  obtain ⟨u,v,vs,e,f1,f2,g⟩:=h
  exact ⟨u,v,vs,e,Den.mono p f1,Den.mono p f2,DenKV.mono p g⟩
theorem DenKK.mono (p:Pers H H'):∀ {ds:List (PyData×PyData)} {xs:List (Key×V)},DenKK K H ds xs→DenKK K H' ds xs
 | [],_,h=>by simpa only [DenKK] using h
 | (k,d) :: r,_,h=>by
  simp only [DenKK] at h ⊢
  obtain ⟨u,v,vs,e,f1,f2,g⟩:=h
  exact ⟨u,v,vs,e,f1,Den.mono p f2,DenKK.mono p g⟩
theorem DenXF.mono (p:Pers H H'):∀ {ds:List (PyData×PyData)} {xs:List (Str×V)},DenXF K H ds xs→DenXF K H' ds xs
 | [],_,h=>by simpa only [DenXF] using h
 | (.str f,d) :: r,_,h=>by
  simp only [DenXF] at h ⊢
  obtain ⟨v,vs,e,f1,g⟩:=h
  exact ⟨v,vs,e,Den.mono p f1,DenXF.mono p g⟩
 | (.none,d) :: r,_,h=>by simp only [DenXF] at h ⊢; exact DenXF.mono p h
 | (.bool _,d) :: r,_,h=>by simp only [DenXF] at h ⊢; exact DenXF.mono p h
 | (.int _,d) :: r,_,h=>by simp only [DenXF] at h ⊢; exact DenXF.mono p h
 | (.list _,d) :: r,_,h=>by simp only [DenXF] at h ⊢; exact DenXF.mono p h
 | (.tuple _,d) :: r,_,h=>by simp only [DenXF] at h ⊢; exact DenXF.mono p h
 | (.dict _,d) :: r,_,h=>by simp only [DenXF] at h ⊢; exact DenXF.mono p h
end
theorem DenAll.nil:DenAll K H [] []:=by simp only [DenAll]
theorem DenAll.cons {d:PyData} {ds:List PyData} {v:V} {vs:List V} (h:Den K H d v) (t:DenAll K H ds vs):DenAll K H (d :: ds) (v :: vs):=by
 simp only [DenAll]; exact ⟨v,vs,rfl,h,t⟩
theorem DenAll.paired:∀ {ds:List PyData} {xs:List V},DenAll K H ds xs→Paired (Den K H) ds xs
 | [],_,h=>by simp only [DenAll] at h; subst h; exact .nil
 | d :: ds,_,h=>by
  simp only [DenAll] at h
  obtain ⟨v,vs,e,f,g⟩:=h
  subst e
  exact .cons f g.paired
theorem dA:∀ {ds:List PyData} {xs:List V},Paired (Den K H) ds xs→DenAll K H ds xs
 | _,_,.nil=>DenAll.nil
 | _,_,.cons f t=>DenAll.cons f (dA t)
theorem DenAll.length {ds:List PyData} {xs:List V} (h:DenAll K H ds xs):ds.length = xs.length:=h.paired.length
theorem Paired.get' {α β : Type} {F : α→β→Prop}:∀ {l₁ : List α} {l₂ : List β} {i:Nat} {a : α},Paired F l₁ l₂→l₁[i]? = some a→∃ b,l₂[i]? = some b∧F a b
 | _,_,_,_,.nil,e=>by simp at e
 | _,_,0,_,.cons f _,e=>by simp at e; subst e; exact ⟨_,rfl,f⟩
 | _,_,i + 1,a,.cons _ t,e=>by
  obtain ⟨b,h1,h2⟩:=Paired.get' (i:=i) (a:=a) t (by simpa using e)
  exact ⟨b,by simpa using h1,h2⟩
theorem DenAll.get {ds:List PyData} {xs:List V} {i:Nat} {d:PyData} (h:DenAll K H ds xs) (e:ds[i]? = some d):∃ v,xs[i]? = some v∧Den K H d v:=Paired.get' h.paired e
theorem Paired.get2 {α β : Type} {F : α→β→Prop}:∀ {l₁ : List α} {l₂ : List β} {i:Nat} {b : β},Paired F l₁ l₂→l₂[i]? = some b→∃ a,l₁[i]? = some a∧F a b
 | _,_,_,_,.nil,e=>by simp at e
 | _,_,0,_,.cons f _,e=>by simp at e; subst e; exact ⟨_,rfl,f⟩
 | _,_,i + 1,b,.cons _ t,e=>by
  obtain ⟨a,h1,h2⟩:=Paired.get2 (i:=i) (b:=b) t (by simpa using e)
  exact ⟨a,by simpa using h1,h2⟩
theorem DenAll.get2 {ds:List PyData} {xs:List V} {i:Nat} {v:V} (h:DenAll K H ds xs) (e:xs[i]? = some v):∃ d,ds[i]? = some d∧Den K H d v:=Paired.get2 h.paired e
theorem Paired.append' {α β : Type} {F : α→β→Prop}:∀ {a b:List α} {c d:List β},Paired F a c→Paired F b d→Paired F (a++b) (c++d)
 | _,_,_,_,.nil,s=>s
 | _,_,_,_,.cons r t,s=>.cons r (Paired.append' t s)
theorem DenAll.append {ds es:List PyData} {xs ys:List V} (h:DenAll K H ds xs) (g:DenAll K H es ys):DenAll K H (ds++es) (xs++ys):=dA (Paired.append' h.paired g.paired)
theorem Paired.set' {α β : Type} {F : α→β→Prop} {a : α} {b : β} (f:F a b):∀ {l₁ : List α} {l₂ : List β} (i:Nat),Paired F l₁ l₂→Paired F (l₁.set i a) (l₂.set i b)
 | _,_,_,.nil=>.nil
 | _,_,0,.cons _ t=>.cons f t
 | _,_,i + 1,.cons q t=>.cons q (Paired.set' f i t)
theorem DenAll.set {ds:List PyData} {xs:List V} {d:PyData} {v:V} (h:DenAll K H ds xs) (f:Den K H d v) (i:Nat):DenAll K H (ds.set i d) (xs.set i v):=dA (Paired.set' f i h.paired)
theorem Paired.take' {α β : Type} {F : α→β→Prop}:∀ {l₁ : List α} {l₂ : List β} (n:Nat),Paired F l₁ l₂→Paired F (l₁.take n) (l₂.take n)
 | _,_,0,_=>.nil
 | _,_,_ + 1,.nil=>.nil
 | _,_,n + 1,.cons r t=>.cons r (Paired.take' n t)
theorem Paired.drop' {α β : Type} {F : α→β→Prop}:∀ {l₁ : List α} {l₂ : List β} (n:Nat),Paired F l₁ l₂→Paired F (l₁.drop n) (l₂.drop n)
 | _,_,0,h=>h
 | _,_,_ + 1,.nil=>.nil
 | _,_,n + 1,.cons _ t=>Paired.drop' n t
theorem DenAll.take {ds:List PyData} {xs:List V} (h:DenAll K H ds xs) (n:Nat):DenAll K H (ds.take n) (xs.take n):=dA (Paired.take' n h.paired)
theorem DenAll.drop {ds:List PyData} {xs:List V} (h:DenAll K H ds xs) (n:Nat):DenAll K H (ds.drop n) (xs.drop n):=dA (Paired.drop' n h.paired)
theorem DenAll.ints:∀ ns:List Int,DenAll K H (ns.map .int) (ns.map V.int)
 | []=>DenAll.nil
 | n :: ns=>DenAll.cons (by simp only [Den]) (DenAll.ints ns)
end
def fzOf:List (PyData×PyData)→Option PyData
 | [(.none,.list ds)]=>some (.list ds)
 | [(.none,.dict es)]=>some (.dict es)
 | _=>none
mutual
def TAt (K:Kd) (H:Hp) (τ : List (List Nat×Addr)) (p:List Nat):PyData→V→Prop
 | .list ts,v=>∃ a xs,τ.lookup p = some a∧v = .ref a∧H a = some (.lst xs)∧TAtL K H τ p 0 ts xs
 | .dict kvs,v=>(∃ d,fzOf kvs = some d∧Den K H d v) ∨
   (fzOf kvs = none∧excC kvs = none∧∃ a es,τ.lookup p = some a∧v = .ref a∧H a = some (dX a es)∧yG kvs∧TAtD K H τ p 0 kvs es) ∨
   (fzOf kvs = none∧excC kvs = none∧∃ a es,τ.lookup p = some a∧v = .ref a∧H a = some (.dK es)∧TAtK K H τ p 0 kvs es) ∨
   ∃ c a dx C xs,excC kvs = some c∧τ.lookup p = some a∧v = .ref a∧H a = some (.ins C dx xs)∧ClsN K c C∧TAtF K H τ p 0 kvs xs
 | .none,v=>Den K H .none v
 | .bool b,v=>Den K H (.bool b) v
 | .int i,v=>Den K H (.int i) v
 | .str x,v=>Den K H (.str x) v
 | .tuple ds,v=>Den K H (.tuple ds) v
def TAtL (K:Kd) (H:Hp) (τ : List (List Nat×Addr)) (p:List Nat) (i:Nat):List PyData→List V→Prop
 | [],xs=>xs = []
 | t :: ts,xs=>∃ v vs,xs = v :: vs∧TAt K H τ (p++[i]) t v∧TAtL K H τ p (i + 1) ts vs
def TAtD (K:Kd) (H:Hp) (τ : List (List Nat×Addr)) (p:List Nat) (i:Nat):List (PyData×PyData)→List (Int×V×V)→Prop
 | [],es=>es = []
 | (k,t) :: r,es=>∃ u v vs,es = (vy K.w k,u,v) :: vs∧Den K H k u∧TAt K H τ (p++[i]) t v∧TAtD K H τ p (i + 1) r vs
def TAtK (K:Kd) (H:Hp) (τ : List (List Nat×Addr)) (p:List Nat) (i:Nat):List (PyData×PyData)→List (Key×V)→Prop
 | [],es=>es = []
 | (k,t) :: r,es=>∃ kk v vs,es = (kk,v) :: vs∧(k = keyD kk∧∀ x∈vs,x.1≠kk)∧TAt K H τ (p++[i]) t v∧TAtK K H τ p (i + 1) r vs
def TAtF (K:Kd) (H:Hp) (τ : List (List Nat×Addr)) (p:List Nat) (i:Nat):List (PyData×PyData)→List (Str×V)→Prop
 | [],xs=>xs = []
 | (k,t) :: r,xs=>match k with
  | .str f=>∃ v vs,xs = (f,v) :: vs∧TAt K H τ (p++[i]) t v∧TAtF K H τ p (i + 1) r vs
  | .none=>TAtF K H τ p (i + 1) r xs
  | _=>False
end
theorem bv {β γ : Type} [BEq β] [LawfulBEq β] {l:List (β×γ)} {p : β} {a : γ} (h:l.lookup p = some a):a∈l.map (·.2):=by
 induction l with
 | nil=>cases h
 | cons x l ih =>
  rw [List.lookup_cons] at h
  split at h
  ·cases h; simp
  ·exact List.mem_map.mpr (let ⟨y,h1,h2⟩:=List.mem_map.mp (ih h); ⟨y,List.mem_cons_of_mem _ h1,h2⟩)
section
variable {K:Kd} {H H':Hp} {τ : List (List Nat×Addr)}
mutual
theorem TAt.mono (pe:Pers H H') (e:∀ a∈τ.map (·.2),H' a = H a):∀ {d:PyData} {p:List Nat} {v:V},TAt K H τ p d v→TAt K H' τ p d v
 | .none,_,_,h=>by simp only [TAt] at h ⊢; exact h.mono pe
 | .bool _,_,_,h=>by simp only [TAt] at h ⊢; exact h.mono pe
 | .int _,_,_,h=>by simp only [TAt] at h ⊢; exact h.mono pe
 | .str _,_,_,h=>by simp only [TAt] at h ⊢; exact h.mono pe
 | .tuple _,_,_,h=>by simp only [TAt] at h ⊢; exact h.mono pe
 | .list ts,_,_,h=>by
  simp only [TAt] at h ⊢
  obtain ⟨a,xs,e1,e2,e3,g⟩:=h
  exact ⟨a,xs,e1,e2,(e a (bv e1)).trans e3,TAtL.mono pe e g⟩
 | .dict kvs,_,_,h=>by
  simp only [TAt] at h ⊢
  rcases h with ⟨d,e1,h⟩ | ⟨z1,z2,a,es,e1,e2,e3,k,g⟩ | ⟨z1,z2,a,es,e1,e2,e3,g⟩ | ⟨c,a,dx,C,xs,e0,e1,e2,e3,k,g⟩
  ·exact .inl ⟨d,e1,h.mono pe⟩
  ·exact .inr (.inl ⟨z1,z2,a,es,e1,e2,(e a (bv e1)).trans e3,k,TAtD.mono pe e g⟩)
  ·exact .inr (.inr (.inl ⟨z1,z2,a,es,e1,e2,(e a (bv e1)).trans e3,TAtK.mono pe e g⟩))
  ·exact .inr (.inr <| .inr ⟨c,a,dx,C,xs,e0,e1,e2,(e a (bv e1)).trans e3,k,TAtF.mono pe e g⟩)
theorem TAtL.mono (pe:Pers H H') (e:∀ a∈τ.map (·.2),H' a = H a):∀ {ds:List PyData} {p:List Nat} {i:Nat} {xs:List V},TAtL K H τ p i ds xs→TAtL K H' τ p i ds xs
 | [],_,_,_,h=>by simpa only [TAtL] using h
 | t :: ts,_,_,_,h=>by
  simp only [TAtL] at h ⊢
  obtain ⟨v,vs,e1,g1,g2⟩:=h
  exact ⟨v,vs,e1,TAt.mono pe e g1,TAtL.mono pe e g2⟩
theorem TAtD.mono (pe:Pers H H') (e:∀ a∈τ.map (·.2),H' a = H a):∀ {ds:List (PyData×PyData)} {p:List Nat} {i:Nat} {xs:List (Int×V×V)},TAtD K H τ p i ds xs→TAtD K H' τ p i ds xs
 | [],_,_,_,h=>by simpa only [TAtD] using h
 | (k,t) :: r,_,_,_,h=>by
  simp only [TAtD] at h ⊢
  obtain ⟨u,v,vs,e1,g0,g1,g2⟩:=h
  exact ⟨u,v,vs,e1,g0.mono pe,TAt.mono pe e g1,TAtD.mono pe e g2⟩
theorem TAtK.mono (pe:Pers H H') (e:∀ a∈τ.map (·.2),H' a = H a):∀ {ds:List (PyData×PyData)} {p:List Nat} {i:Nat} {xs:List (Key×V)},TAtK K H τ p i ds xs→TAtK K H' τ p i ds xs
 | [],_,_,_,h=>by simpa only [TAtK] using h
 | (k,t) :: r,_,_,_,h=>by
  simp only [TAtK] at h ⊢
  obtain ⟨u,v,vs,e1,g0,g1,g2⟩:=h
  exact ⟨u,v,vs,e1,g0,TAt.mono pe e g1,TAtK.mono pe e g2⟩
theorem TAtF.mono (pe:Pers H H') (e:∀ a∈τ.map (·.2),H' a = H a):∀ {ds:List (PyData×PyData)} {p:List Nat} {i:Nat} {xs:List (Str×V)},TAtF K H τ p i ds xs→TAtF K H' τ p i ds xs
 | [],_,_,_,h=>by simpa only [TAtF] using h
 | (.str f,t) :: r,_,_,_,h=>by
  simp only [TAtF] at h ⊢
  obtain ⟨v,vs,e1,g1,g2⟩:=h
  exact ⟨v,vs,e1,TAt.mono pe e g1,TAtF.mono pe e g2⟩
 | (.none,d) :: r,_,_,_,h=>by simp only [TAtF] at h ⊢; exact TAtF.mono pe e h
 | (.bool _,d) :: r,_,_,_,h=>by simp only [TAtF] at h
 | (.int _,d) :: r,_,_,_,h=>by simp only [TAtF] at h
 | (.list _,d) :: r,_,_,_,h=>by simp only [TAtF] at h
 | (.tuple _,d) :: r,_,_,_,h=>by simp only [TAtF] at h
 | (.dict _,d) :: r,_,_,_,h=>by simp only [TAtF] at h
end
end
abbrev Cx.kd (X:Cx):Kd:=⟨X.K,X.w⟩
section
variable {X:Cx} {pins:List (Addr×Obj)} {σ : St} {H:Hp} {s:Shared}
mutual
theorem Den.reads (I:Inv X pins σ H s):∀ {d:PyData} {v:V} {u:Value},d.hasDict = false→Den X.kd H d v→RelV v u→∃ as,Reads s.heap u d as
 | .none,v,u,_,h,r=>by simp only [Den] at h; subst h; cases r; exact ⟨_,.none⟩
 | .bool b,v,u,nd,h,r=>by simp only [Den] at h; subst h; cases r; exact ⟨_,.bool b⟩
 | .int i,v,u,nd,h,r=>by simp only [Den] at h; subst h; obtain ⟨t,rfl⟩:=r; exact ⟨_,.int i t⟩
 | .str x,v,u,nd,h,r=>by simp only [Den] at h; subst h; obtain ⟨t,rfl⟩:=r; exact ⟨_,.str x t⟩
 | .list ds,v,u,nd,h,r=>by
  simp only [Den] at h
  obtain ⟨a,xs,rfl,f,g⟩:=h
  cases r
  obtain ⟨its,rv,⟨o,n,e,c,_,dd⟩,_⟩:=I.list f.sq
  obtain ⟨as,h2⟩:=DenAll.reads I (by simpa only [PyData.hasDict] using nd) g rv
  exact ⟨_,.list e c dd (by simpa using h2)⟩
 | .tuple ds,v,u,nd,h,r=>by
  simp only [Den] at h
  obtain ⟨a,xs,rfl,f,g⟩:=h
  cases r
  obtain ⟨its,rv,⟨o,e,c,n,dd⟩,_⟩:=I.tuple f
  obtain ⟨as,h2⟩:=DenAll.reads I (by simpa only [PyData.hasDict] using nd) g rv
  exact ⟨_,.tuple e c dd (by simpa using h2)⟩
 | .dict _,v,u,nd,h,r=>by simp [PyData.hasDict] at nd
theorem DenAll.reads (I:Inv X pins σ H s):∀ {ds:List PyData} {xs:List V} {us:List Value},PyData.hasDictAll ds = false→DenAll X.kd H ds xs→Vals xs us→∃ as,ReadsAll s.heap us ds as
 | [],xs,us,_,h,r=>by simp only [DenAll] at h; subst h; cases r; exact ⟨_,.nil⟩
 | d :: ds,xs,us,nd,h,r=>by
  simp only [PyData.hasDictAll,Bool.or_eq_false_iff] at nd
  simp only [DenAll] at h
  obtain ⟨v,vs,rfl,f,g⟩:=h
  cases r with
  | cons r1 r2 =>
   obtain ⟨a1,h1⟩:=Den.reads I nd.1 f r1
   obtain ⟨a2,h2⟩:=DenAll.reads I nd.2 g r2
   exact ⟨_,.cons h1 h2⟩
end
theorem Inv.freeze {a:Addr} {xs:List V} (I:Inv X pins σ H s) (h:H a = some (.lst xs)):∃ o,Inv X pins σ (upd H a (.frz o (.lst xs))) s:=by
 obtain ⟨hz,its,n,rv,e⟩:=I.hok a _ h
 refine ⟨{ cls:=.type "list",data:=.seq its.toArray n },I.un (h':=s.heap) (t':=s.toks) ⟨fun b ob q _ _ _=>q,fun b ob q _ _ _=>⟨ob.slots,q⟩,fun b ob q z _=>?_,fun b ob q _=>⟨ob,q⟩,fun b ys q=>?_,fun b ob u q=>?_,fun b ps q=>⟨#[],?_⟩⟩ fun b ob q=>?_⟩
 ·rw [av (Ne.symm (aU h z))]; exact z
 ·rw [av (qh q h (by intro z; cases z))]; exact q
 ·rw [av (qh q h (by intro z; cases z))]; exact q
 ·rw [av (qh q h (by intro z; cases z)),q]; simp
 ·by_cases hb:b = a
  ·subst hb
   rw [aC] at q
   cases q
   exact ⟨e,hz,its,n,rv,e⟩
  ·rw [av hb] at q
   exact (I.hok b ob q).stay (fun _ _ _ z=>z) (fun c z=>by rw [av (qh z h (by intro z; cases z))]; exact z) fun c ys z=>by rw [av (qh z h (by intro z; cases z))]; exact z
end
def yJ:Expr→Bool
 | .Starred ..=>true
 | _=>false
theorem aD {e:Expr} {es:List Expr} {env:Env} (h:yJ e = false):starEach (e :: es) env = (false,eval e env) :: starEach es env:=by
 cases e <;> first | rfl | cases h
theorem br {e:Expr} {env:Env} (h:yJ e = false):starEach [e] env = [(false,eval e env)]:=aD h
inductive R where
 | imm (d:PyData) | obj (k:Nat) | new (ds:List PyData) | at (k:Nat) (p:List Nat) | newT (t:PyData)
structure MSt where
 vs:List (Option R)
 os:List (List PyData)
 np:Nat
structure Kx extends Kd where
 eb:EB
instance:Coe Kx Kd:=⟨Kx.toKd⟩
abbrev Cx.kx (X:Cx):Kx:=⟨X.kd,X.eb⟩
abbrev Al:=List Ao
def Ao.ads:Ao→List Addr
 | .L a=>[a]
 | .T t=>t.map (·.2)
def ads (α : Al):List Addr:=α.flatMap Ao.ads
theorem fH (α β : Al):ads (α++β) = ads α++ads β:=by unfold ads; rw [List.flatMap_append]
def Mu:HO→Bool
 | .tup _=>false
 | .frz _ _=>false
 | _=>true
def OwnAt (K:Kd) (H:Hp):Ao→List PyData→Prop
 | .L a,ds=>∃ xs,H a = some (.lst xs)∧DenAll K H ds xs
 | .T τ,ds=>(∃ t v,ds = [t]∧TAt K H τ [] t v∧∃ a,τ.lookup [] = some a∧v = .ref a)∧∀ a∈τ.map (·.2),∃ o,H a = some o∧Mu o = true
theorem OwnAt.mem {K:Kd} {H:Hp} {ao:Ao} {ds:List PyData} (h:OwnAt K H ao ds) {a:Addr} (ha:a∈ao.ads):∃ o,H a = some o∧Mu o = true:=by
 cases ao with
 | L b=>cases List.mem_singleton.mp ha; obtain ⟨xs,e,_⟩:=h; exact ⟨_,e,rfl⟩
 | T τ=>exact h.2 a ha
theorem OwnAt.mono {K:Kd} {H H':Hp} {ao:Ao} {ds:List PyData} (h:OwnAt K H ao ds) (pe:Pers H H') (e:∀ a∈ao.ads,H' a = H a):OwnAt K H' ao ds:=by
 cases ao with
 | L b =>
  obtain ⟨xs,q,g⟩:=h
  exact ⟨xs,(e b (List.mem_singleton.mpr rfl)).trans q,g.mono pe⟩
 | T τ =>
  obtain ⟨⟨t,v,e1,g,r⟩,m⟩:=h
  exact ⟨⟨t,v,e1,g.mono pe e,r⟩,fun a ha=>by rw [e a ha]; exact m a ha⟩
def RelS (K:Kd) (α : Al) (H:Hp):R→V→Prop
 | .imm d,v=>Den K H d v
 | .obj k,v=>∃ a,α[k]? = some (.L a)∧v = .ref a
 | .at k p,v=>∃ τ a,α[k]? = some (.T τ)∧τ.lookup p = some a∧v = .ref a
 | .new _,_=>False
 | .newT _,_=>False
def RelR (K:Kd) (α : Al) (Hb H:Hp):R→V→Prop
 | .imm d,v=>Den K H d v
 | .obj k,v=>∃ a,α[k]? = some (.L a)∧v = .ref a
 | .at k p,v=>∃ τ a,α[k]? = some (.T τ)∧τ.lookup p = some a∧v = .ref a
 | .new ds,v=>∃ a xs,v = .ref a∧Hb a = none∧H a = some (.lst xs)∧DenAll K H ds xs
 | .newT t,v=>∃ τ a,v = .ref a∧τ.lookup [] = some a∧(τ.map (·.2)).Nodup∧(∀ b∈τ.map (·.2),Hb b = none)∧OwnAt K H (.T τ) [t]
def Frm (α : Al) (H H':Hp):Prop:=∀ b o,H b = some o→b∉ads α→H' b = some o
theorem Frm.refl (α : Al) (H:Hp):Frm α H H:=fun _ _ e _=>e
theorem Frm.trans {α : Al} {H H1 H2:Hp} (a:Frm α H H1) (b:Frm α H1 H2):Frm α H H2:=fun c o e n=>b c o (a c o e n) n
structure Ext (np:Nat) (α : Al) (H:Hp) (α':Al) (H':Hp):Prop where
 pre : α'.take np = α.take np
 frm:Frm α H H'
 new:∀ a∈ads α',a∈ads α∨H a = none
 old:∀ a∈ads α,∃ o,H' a = some o
theorem Ext.trans {np:Nat} {α α1 α2:Al} {H H1 H2:Hp} (x:Ext np α H α1 H1) (y:Ext np α1 H1 α2 H2):Ext np α H α2 H2:=by
 have out:∀ b o,H b = some o→b∉ads α→b∉ads α1:=fun b o e n hb=>by
  rcases x.new b hb with z | z
  ·exact n z
  ·rw [e] at z; cases z
 refine ⟨y.pre.trans x.pre,fun b o e n=>y.frm b o (x.frm b o e n) (out b o e n),fun a ha=>?_,fun a ha=>?_⟩
 ·rcases y.new a ha with z | z
  ·exact x.new a z
  ·cases q:H a with
   | none=>exact .inr rfl
   | some o =>
    by_cases hm:a∈ads α
    ·exact .inl hm
    ·have:=x.frm a o q hm
     rw [z] at this; cases this
 ·obtain ⟨o,e⟩:=x.old a ha
  by_cases hm:a∈ads α1
  ·exact y.old a hm
  ·exact ⟨o,y.frm a o e hm⟩
theorem Ext.nil {np:Nat} {α α1:Al} {H H1:Hp} (x:Ext np α H α1 H1) {a:Addr} (h:H1 a = none):H a = none:=by
 cases q:H a with
 | none=>rfl
 | some o =>
  by_cases hm:a∈ads α
  ·obtain ⟨o',e⟩:=x.old a hm
   rw [h] at e; cases e
  ·have:=x.frm a o q hm
   rw [h] at this; cases this
theorem Ext.less {np n1:Nat} {α α':Al} {H H':Hp} (x:Ext n1 α H α' H') (h:np≤n1):Ext np α H α' H':=by
 refine ⟨?_,x.frm,x.new,x.old⟩
 have:=congrArg (List.take np) x.pre
 rw [List.take_take,List.take_take,Nat.min_eq_left h] at this
 exact this
structure Rel (K:Kx) (α : Al) (m:MSt) (σ : St) (H:Hp):Prop where
 nd:(ads α).Nodup
 len : α.length = m.os.length
 own:∀ (k:Nat) (ao:Ao) (ds:List PyData),α[k]? = some ao→m.os[k]? = some ds→OwnAt K H ao ds
 vlen : σ.length = m.vs.length
 var:∀ (i:Nat) (r:R),m.vs[i]? = some (some r)→∃ v,σ[i]? = some (some v)∧RelS K α H r v
 npl:m.np≤α.length
 ebl:K.eb.np≤m.np
 ebx:Ext K.eb.np K.eb.be K.eb.H α H
section
variable {K:Kx} {α : Al} {m m':MSt} {σ : St} {H H0 H1 H':Hp} {r:R} {v:V}
theorem RelS.rr {K:Kd} {Hb:Hp} (h:RelS K α H r v):RelR K α Hb H r v:=by
 cases r with
 | imm d=>exact h
 | obj k=>exact h
 | «at» k p=>exact h
 | new ds=>exact h.elim
 | newT t=>exact h.elim
theorem Rel.mem (R:Rel K α m σ H) {a:Addr} (ha:a∈ads α):∃ o,H a = some o∧Mu o = true:=by
 obtain ⟨ao,h1,h2⟩:=List.mem_flatMap.mp ha
 obtain ⟨k,hk,e⟩:=List.mem_iff_getElem.mp h1
 have h1 : α[k]? = some ao:=by rw [List.getElem?_eq_getElem hk,e]
 have h2':m.os[k]? = some (m.os[k]'(by rw [←R.len]; exact hk)):=List.getElem?_eq_getElem _
 exact (R.own k ao _ h1 h2').mem h2
theorem Rel.out (R:Rel K α m σ H) {a:Addr} (h:H a = none):a∉ads α:=fun ha=>by
 obtain ⟨xs,q,_⟩:=R.mem ha
 rw [h] at q; cases q
theorem Rel.pers (R:Rel K α m σ H) (F:Frm α H H'):Pers H H' where
 tups:=fun b xs e=>F b _ e fun ha=>by obtain ⟨ys,q,z⟩:=R.mem ha; rw [e] at q; cases q; cases z
 frzs:=fun b o u e=>F b _ e fun ha=>by obtain ⟨ys,q,z⟩:=R.mem ha; rw [e] at q; cases q; cases z
theorem Ext.of {np:Nat} (R:Rel K α m σ H') (F:Frm α H H'):Ext np α H α H' :=
 ⟨rfl,F,fun _ h=>.inl h,fun a ha=>let ⟨xs,q,_⟩:=R.mem ha; ⟨_,q⟩⟩
theorem OwnAt.keep {K:Kd} {ao:Ao} {ds:List PyData} (h:OwnAt K H1 ao ds) (pe:Pers H1 H) (F:Frm α H1 H) (n:∀ b∈ao.ads,b∉ads α):OwnAt K H ao ds :=
 h.mono pe fun a ha=>by
  obtain ⟨o,e,_⟩:=h.mem ha
  rw [e]; exact F a o e (n a ha)
theorem RelR.keep (R0:Rel K α m σ H0) (R1:Rel K α m' σ H1) (F:Frm α H1 H) (h:RelR K α H0 H1 r v):RelR K α H0 H r v:=by
 cases r with
 | imm d=>exact Den.mono (R1.pers F) h
 | obj k=>exact h
 | «at» k p=>exact h
 | new ds =>
  obtain ⟨a,xs,e,n,q,g⟩:=h
  exact ⟨a,xs,e,n,F a _ q (R0.out n),g.mono (R1.pers F)⟩
 | newT t =>
  obtain ⟨τ,a,e,e1,nd,n,g⟩:=h
  exact ⟨τ,a,e,e1,nd,n,g.keep (R1.pers F) F fun b hb=>R0.out (n b hb)⟩
theorem RelR.base (R:Rel K α m σ H) (F:Frm α H0 H) (h:RelR K α H H' r v):RelR K α H0 H' r v:=by
 have old:∀ a,H a = none→H0 a = none:=fun a n=>by
  cases z:H0 a with
  | none=>rfl
  | some o =>
   have:=F a o z (R.out n)
   rw [n] at this; cases this
 cases r with
 | imm d=>exact h
 | obj k=>exact h
 | «at» k p=>exact h
 | new ds =>
  obtain ⟨a,xs,e,n,q,g⟩:=h
  exact ⟨a,xs,e,old a n,q,g⟩
 | newT t =>
  obtain ⟨τ,a,e,e1,nd,n,g⟩:=h
  exact ⟨τ,a,e,e1,nd,fun b hb=>old b (n b hb),g⟩
def chD:PyData→Nat→Option PyData
 | .list ts,i=>ts[i]?
 | .dict kvs,i=>match kvs[i]? with
  | some (.none,_)=>none
  | some (_,t)=>some t
  | none=>none
 | _,_=>none
def getT:PyData→List Nat→Option PyData
 | t,[]=>some t
 | t,i :: p=>(chD t i).bind fun t'=>getT t' p
def fx:PyData→Option PyData
 | .list _=>none
 | .dict kvs=>fzOf kvs
 | d=>some d
def ce:List PyData→Option (List PyData)
 | []=>some []
 | t :: ts=>match fx t,ce ts with | some d,some ds=>some (d :: ds) | _,_=>none
def ndL (m:MSt) (k:Nat) (p:List Nat):Option (List PyData):=match m.os[k]? with
 | some [t]=>match getT t p with
  | some (.list ts)=>ce ts
  | _=>none
 | _=>none
theorem kl {K:Kd} {τ : List (List Nat×Addr)} {p:List Nat} {t d:PyData} (h:TAt K H τ p t v) (e:fx t = some d):Den K H d v:=by
 cases t with
 | list ts=>cases e
 | dict kvs =>
  have e':fzOf kvs = some d:=e
  simp only [TAt] at h
  rcases h with ⟨d',e1,h⟩ | ⟨z,_⟩ | ⟨z,_⟩ | ⟨c,a,dx,C,xs,e0,_⟩
  ·rw [e'] at e1; cases e1; exact h
  ·rw [e'] at z; cases z
  ·rw [e'] at z; cases z
  ·exfalso
   unfold fzOf at e'
   unfold excC at e0
   split at e' <;> simp_all
 | none=>cases e; simpa only [TAt] using h
 | bool _=>cases e; simpa only [TAt] using h
 | int _=>cases e; simpa only [TAt] using h
 | str _=>cases e; simpa only [TAt] using h
 | tuple _=>cases e; simpa only [TAt] using h
theorem fZ {K:Kd} {τ : List (List Nat×Addr)} {p:List Nat}:∀ {ts ds:List PyData} {i:Nat} {xs:List V},TAtL K H τ p i ts xs→ce ts = some ds→DenAll K H ds xs
 | [],ds,i,xs,h,e=>by
  cases e
  simp only [TAtL] at h
  subst h
  exact DenAll.nil
 | t :: ts,ds,i,xs,h,e=>by
  simp only [TAtL] at h
  obtain ⟨v,vs,rfl,g1,g2⟩:=h
  simp only [ce] at e
  cases q1:fx t with
  | none=>rw [q1] at e; cases e
  | some d =>
   cases q2:ce ts with
   | none=>rw [q1,q2] at e; cases e
   | some ds' =>
    rw [q1,q2] at e; cases e
    exact DenAll.cons (kl g1 q1) (fZ g2 q2)
theorem TAtL.get {K:Kd} {τ : List (List Nat×Addr)} {p:List Nat}:∀ {ts:List PyData} {i j:Nat} {xs:List V} {t:PyData},TAtL K H τ p i ts xs→ts[j]? = some t→∃ v,xs[j]? = some v∧TAt K H τ (p++[i + j]) t v
 | [],_,_,_,_,_,e=>by simp at e
 | t :: ts,i,0,xs,t',h,e=>by
  simp only [TAtL] at h
  obtain ⟨v,vs,rfl,g1,_⟩:=h
  simp at e; subst e
  exact ⟨v,rfl,g1⟩
 | t :: ts,i,j + 1,xs,t',h,e=>by
  simp only [TAtL] at h
  obtain ⟨v,vs,rfl,_,g2⟩:=h
  obtain ⟨v',e1,e2⟩:=TAtL.get (j:=j) g2 (by simpa using e)
  exact ⟨v',by simpa using e1,by rw [show i + (j + 1) = i + 1 + j by omega]; exact e2⟩
theorem TAtD.get {K:Kd} {τ : List (List Nat×Addr)} {p:List Nat}:∀ {ts:List (PyData×PyData)} {i j:Nat} {xs:List (Int×V×V)} {k t:PyData},TAtD K H τ p i ts xs→ts[j]? = some (k,t)→∃ u v,xs[j]? = some (vy K.w k,u,v)∧Den K H k u∧TAt K H τ (p++[i + j]) t v
 | [],_,_,_,_,_,_,e=>by simp at e
 | (k,t) :: ts,i,0,xs,k',t',h,e=>by
  simp only [TAtD] at h
  obtain ⟨u,v,vs,rfl,g0,g1,_⟩:=h
  simp at e; obtain ⟨rfl,rfl⟩:=e
  exact ⟨u,v,rfl,g0,g1⟩
 | (k,t) :: ts,i,j + 1,xs,k',t',h,e=>by
  simp only [TAtD] at h
  obtain ⟨u,v,vs,rfl,_,_,g2⟩:=h
  obtain ⟨u',v',e1,e0,e2⟩:=TAtD.get (j:=j) g2 (by simpa using e)
  exact ⟨u',v',by simpa using e1,e0,by rw [show i + (j + 1) = i + 1 + j by omega]; exact e2⟩
theorem TAtK.get {K:Kd} {τ : List (List Nat×Addr)} {p:List Nat}:∀ {ts:List (PyData×PyData)} {i j:Nat} {xs:List (Key×V)} {k t:PyData},TAtK K H τ p i ts xs→ts[j]? = some (k,t)→∃ v,TAt K H τ (p++[i + j]) t v
 | [],_,_,_,_,_,_,e=>by simp at e
 | (k,t) :: ts,i,0,xs,k',t',h,e=>by
  simp only [TAtK] at h
  obtain ⟨u,v,vs,rfl,g0,g1,_⟩:=h
  simp at e; obtain ⟨rfl,rfl⟩:=e
  exact ⟨v,g1⟩
 | (k,t) :: ts,i,j + 1,xs,k',t',h,e=>by
  simp only [TAtK] at h
  obtain ⟨u,v,vs,rfl,_,_,g2⟩:=h
  obtain ⟨v',e2⟩:=TAtK.get (j:=j) g2 (by simpa using e)
  exact ⟨v',by rw [show i + (j + 1) = i + 1 + j by omega]; exact e2⟩
theorem TAtF.get {K:Kd} {τ : List (List Nat×Addr)} {p:List Nat}:∀ {ts:List (PyData×PyData)} {i j:Nat} {xs:List (Str×V)} {f:Str} {t:PyData},TAtF K H τ p i ts xs→ts[j]? = some (.str f,t)→∃ v,(f,v)∈xs∧TAt K H τ (p++[i + j]) t v
 | [],_,_,_,_,_,_,e=>by simp at e
 | (k,t) :: ts,i,0,xs,f,t',h,e=>by
  simp at e; obtain ⟨rfl,rfl⟩:=e
  simp only [TAtF] at h
  obtain ⟨v,vs,rfl,g1,_⟩:=h
  exact ⟨v,List.mem_cons_self,g1⟩
 | (k,t) :: ts,i,j + 1,xs,f,t',h,e=>by
  have go:∀ {ys:List (Str×V)},TAtF K H τ p (i + 1) ts ys→∃ v,(f,v)∈ys∧TAt K H τ (p++[i + (j + 1)]) t' v:=fun {ys} g2=>by
   obtain ⟨v',e1,e2⟩:=TAtF.get (j:=j) g2 (by simpa using e)
   exact ⟨v',e1,by rw [show i + (j + 1) = i + 1 + j by omega]; exact e2⟩
  cases k with
  | str f' =>
   simp only [TAtF] at h
   obtain ⟨v,vs,rfl,_,g2⟩:=h
   obtain ⟨v',e1,e2⟩:=go g2
   exact ⟨v',List.mem_cons_of_mem _ e1,e2⟩
  | none=>simp only [TAtF] at h; exact go h
  | bool _=>simp only [TAtF] at h
  | int _=>simp only [TAtF] at h
  | list _=>simp only [TAtF] at h
  | tuple _=>simp only [TAtF] at h
  | dict _=>simp only [TAtF] at h
theorem TAtF.key {K:Kd} {τ : List (List Nat×Addr)} {p:List Nat}:∀ {ts:List (PyData×PyData)} {i:Nat} {xs:List (Str×V)} {k t:PyData},TAtF K H τ p i ts xs→(k,t)∈ts→k≠.none→∃ f,k = .str f
 | [],_,_,_,_,_,e,_=>by simp at e
 | (k,t) :: ts,i,xs,k',t',h,e,kn=>by
  cases k with
  | str f' =>
   simp only [TAtF] at h
   obtain ⟨v,vs,rfl,_,g2⟩:=h
   rcases List.mem_cons.mp e with e | e
   ·cases e; exact ⟨_,rfl⟩
   ·exact g2.key e kn
  | none =>
   simp only [TAtF] at h
   rcases List.mem_cons.mp e with e | e
   ·cases e; exact (kn rfl).elim
   ·exact h.key e kn
  | bool _=>simp only [TAtF] at h
  | int _=>simp only [TAtF] at h
  | list _=>simp only [TAtF] at h
  | tuple _=>simp only [TAtF] at h
  | dict _=>simp only [TAtF] at h
theorem TAt.get {K:Kd} {τ : List (List Nat×Addr)}:∀ {q p:List Nat} {t t':PyData} {v:V},TAt K H τ p t v→getT t q = some t'→∃ v',TAt K H τ (p++q) t' v'
 | [],p,t,t',v,h,e=>by cases e; exact ⟨v,by rw [List.append_nil]; exact h⟩
 | i :: q,p,t,t',v,h,e=>by
  simp only [getT] at e
  cases z:chD t i with
  | none=>rw [z] at e; cases e
  | some t1 =>
   rw [z] at e
   have e':getT t1 q = some t':=e
   have step:∃ v1,TAt K H τ (p++[i]) t1 v1:=by
    cases t with
    | list ts =>
     simp only [TAt] at h
     obtain ⟨a,xs,_,_,_,g⟩:=h
     obtain ⟨v1,_,g1⟩:=g.get (j:=i) z
     exact ⟨v1,by rw [Nat.zero_add] at g1; exact g1⟩
    | dict kvs =>
     simp only [chD] at z
     cases zi:kvs[i]? with
     | none=>rw [zi] at z; cases z
     | some kt =>
      obtain ⟨k,t2⟩:=kt
      rw [zi] at z
      have kn:k≠.none:=fun q=>by subst q; cases z
      have e2:t2 = t1:=by
       split at z <;> simp_all
      subst e2
      simp only [TAt] at h
      rcases h with ⟨d,e1,_⟩ | ⟨_,_,a,es,_,_,_,_,g⟩ | ⟨_,_,a,es,_,_,_,g⟩ | ⟨c,a,dx,C,xs,e0,_,_,_,_,g⟩
      ·exfalso
       unfold fzOf at e1
       split at e1
       ·cases i <;> simp at zi; exact kn zi.1.symm
       ·cases i <;> simp at zi; exact kn zi.1.symm
       ·cases e1
      ·obtain ⟨u,v1,_,_,g1⟩:=g.get (j:=i) zi
       exact ⟨v1,by rw [Nat.zero_add] at g1; exact g1⟩
      ·obtain ⟨v1,g1⟩:=g.get (j:=i) zi
       exact ⟨v1,by rw [Nat.zero_add] at g1; exact g1⟩
      ·obtain ⟨f,rfl⟩:=g.key (List.mem_of_getElem? zi) kn
       obtain ⟨v1,_,g1⟩:=g.get (j:=i) zi
       exact ⟨v1,by rw [Nat.zero_add] at g1; exact g1⟩
    | none=>cases z
    | bool _=>cases z
    | int _=>cases z
    | str _=>cases z
    | tuple _=>cases z
   obtain ⟨v1,h1⟩:=step
   obtain ⟨v',h2⟩:=TAt.get h1 e'
   exact ⟨v',by rw [List.append_assoc] at h2; exact h2⟩
def lsOf (m:MSt):R→Option (List PyData)
 | .imm (.list ds)=>some ds
 | .obj k=>m.os[k]?
 | .new ds=>some ds
 | .at k p=>ndL m k p
 | _=>none
mutual
def eraT:PyData→Option PyData
 | .list ts=>(eraL ts).map .list
 | .dict kvs=>fzOf kvs
 | .none=>some .none
 | .bool b=>some (.bool b)
 | .int i=>some (.int i)
 | .str x=>some (.str x)
 | .tuple ds=>some (.tuple ds)
def eraL:List PyData→Option (List PyData)
 | []=>some []
 | t :: ts=>match eraT t,eraL ts with | some d,some ds=>some (d :: ds) | _,_=>none
end
def ndT (m:MSt) (k:Nat) (p:List Nat):Option PyData:=match m.os[k]? with
 | some [t]=>getT t p
 | _=>none
def asD (m:MSt):R→Option PyData
 | .imm d=>some d
 | .obj k=>(m.os[k]?).map .list
 | .new ds=>some (.list ds)
 | .at k p=>match ndT m k p with
  | some (.list ts)=>(eraL ts).map .list
  | _=>none
 | .newT _=>none
theorem RelR.node (R:Rel K α m σ H) {k:Nat} {p:List Nat} (h:RelR K α H0 H (.at k p) v) {t:PyData} (e:ndT m k p = some t):∃ τ a v',α[k]? = some (.T τ)∧τ.lookup p = some a∧v = .ref a∧TAt K H τ p t v':=by
 obtain ⟨τ,a,e1,e2,e3⟩:=h
 unfold ndT at e
 split at e
 ·rename_i t0 e0
  obtain ⟨⟨t1,v0,e4,g,_⟩,_⟩:=R.own k (.T τ) _ e1 e0
  cases e4
  obtain ⟨v',g'⟩:=g.get e
  exact ⟨τ,a,v',e1,e2,e3,by simpa using g'⟩
 ·cases e
theorem RelR.list (R:Rel K α m σ H) (h:RelR K α H0 H r v) {ds:List PyData} (e:lsOf m r = some ds):∃ a xs,v = .ref a∧SqL K H a xs∧DenAll K H ds xs:=by
 cases r with
 | imm d =>
  cases d with
  | list es =>
   cases e
   have h':Den K H (.list ds) v:=h
   simp only [Den] at h'
   obtain ⟨a,xs,e1,f,g⟩:=h'
   exact ⟨a,xs,e1,f.sq,g⟩
  | none=>cases e
  | bool _=>cases e
  | int _=>cases e
  | str _=>cases e
  | tuple _=>cases e
  | dict _=>cases e
 | obj k =>
  obtain ⟨a,e1,rfl⟩:=h
  obtain ⟨xs,q,g⟩:=R.own k _ ds e1 e
  exact ⟨a,xs,rfl,SqL.of q,g⟩
 | new es =>
  cases e
  obtain ⟨a,xs,e1,n,q,g⟩:=h
  exact ⟨a,xs,e1,SqL.of q,g⟩
 | «at» k p =>
  have e':ndL m k p = some ds:=e
  obtain ⟨ts,e1,e2⟩ : ∃ ts,ndT m k p = some (.list ts)∧ce ts = some ds:=by
   unfold ndL at e'
   unfold ndT
   split at e'
   ·split at e'
    ·rename_i h0 _ ts h1
     exact ⟨ts,h1,e'⟩
    ·cases e'
   ·cases e'
  obtain ⟨τ,a,v',_,ea,rfl,g⟩:=RelR.node R h e1
  simp only [TAt] at g
  obtain ⟨a',xs,ea',_,q,g⟩:=g
  rw [ea] at ea'; cases ea'
  exact ⟨a,xs,rfl,SqL.of q,fZ g e2⟩
 | newT _=>cases e
end
section
variable {X:Cx} {pins:List (Addr×Obj)} {σ : St} {H:Hp} {s:Shared} {τ : List (List Nat×Addr)}
mutual
theorem TAt.reads (I:Inv X pins σ H s):∀ {t d:PyData} {p:List Nat} {v:V} {u:Value},eraT t = some d→d.hasDict = false→TAt X.kd H τ p t v→RelV v u→∃ as,Reads s.heap u d as
 | .none,d,p,v,u,e,nd,h,r=>by simp only [eraT] at e; cases e; simp only [TAt] at h; exact h.reads I nd r
 | .bool b,d,p,v,u,e,nd,h,r=>by simp only [eraT] at e; cases e; simp only [TAt] at h; exact h.reads I nd r
 | .int i,d,p,v,u,e,nd,h,r=>by simp only [eraT] at e; cases e; simp only [TAt] at h; exact h.reads I nd r
 | .str x,d,p,v,u,e,nd,h,r=>by simp only [eraT] at e; cases e; simp only [TAt] at h; exact h.reads I nd r
 | .tuple ds,d,p,v,u,e,nd,h,r=>by simp only [eraT] at e; cases e; simp only [TAt] at h; exact h.reads I nd r
 | .dict kvs,d,p,v,u,e,nd,h,r=>by
  simp only [eraT] at e
  exact (kl h (show fx (.dict kvs) = some d from e)).reads I nd r
 | .list ts,d,p,v,u,e,nd,h,r=>by
  simp only [eraT] at e
  cases q:eraL ts with
  | none=>rw [q] at e; cases e
  | some ds =>
   rw [q] at e
   cases e
   simp only [TAt] at h
   obtain ⟨a,xs,_,rfl,f,g⟩:=h
   cases r
   obtain ⟨its,rv,⟨o,n,e,c,_,dd⟩,_⟩:=I.list (SqL.of f)
   obtain ⟨as,h2⟩:=TAtL.reads I q (by simpa only [PyData.hasDict] using nd) g rv
   exact ⟨_,.list e c dd (by simpa using h2)⟩
theorem TAtL.reads (I:Inv X pins σ H s):∀ {ts ds:List PyData} {p:List Nat} {i:Nat} {xs:List V} {us:List Value},eraL ts = some ds→PyData.hasDictAll ds = false→TAtL X.kd H τ p i ts xs→Vals xs us→∃ as,ReadsAll s.heap us ds as
 | [],ds,p,i,xs,us,e,nd,h,r=>by
  simp only [eraL] at e; cases e
  simp only [TAtL] at h; subst h
  cases r; exact ⟨_,.nil⟩
 | t :: ts,ds,p,i,xs,us,e,nd,h,r=>by
  simp only [eraL] at e
  cases q1:eraT t with
  | none=>rw [q1] at e; cases e
  | some d =>
   cases q2:eraL ts with
   | none=>rw [q1,q2] at e; cases e
   | some ds' =>
    rw [q1,q2] at e; cases e
    simp only [PyData.hasDictAll,Bool.or_eq_false_iff] at nd
    simp only [TAtL] at h
    obtain ⟨v,vs,rfl,g1,g2⟩:=h
    cases r with
    | cons r1 r2 =>
     obtain ⟨a1,h1⟩:=TAt.reads I q1 nd.1 g1 r1
     obtain ⟨a2,h2⟩:=TAtL.reads I q2 nd.2 g2 r2
     exact ⟨_,.cons h1 h2⟩
end
end
theorem RelR.reads {X:Cx} {pins:List (Addr×Obj)} {σ σ':St} {H H0:Hp} {s:Shared} {α : Al} {m:MSt} {r:R} {v:V} {u:Value} {d:PyData} (I:Inv X pins σ H s) (R:Rel X.kx α m σ' H) (h:RelR X.kd α H0 H r v) (rv:RelV v u) (e:asD m r = some d) (nd:d.hasDict = false):∃ as,Reads s.heap u d as:=by
 have li:∀ {ds:List PyData},lsOf m r = some ds→PyData.hasDictAll ds = false→∃ as,Reads s.heap u (.list ds) as:=fun {ds} e nd=>by
  obtain ⟨a,xs,rfl,f,g⟩:=RelR.list R h e
  cases rv
  obtain ⟨its,rv,⟨o,n,e,c,_,dd⟩,_⟩:=I.list f
  obtain ⟨as,h2⟩:=DenAll.reads I nd g rv
  exact ⟨_,.list e c dd (by simpa using h2)⟩
 cases r with
 | imm d'=>cases e; exact Den.reads I nd h rv
 | obj k =>
  cases q:m.os[k]? with
  | none=>simp [asD,q] at e
  | some ds =>
   simp [asD,q] at e
   subst e
   exact li q (by simpa only [PyData.hasDict] using nd)
 | new ds=>cases e; exact li rfl (by simpa only [PyData.hasDict] using nd)
 | «at» k p =>
  obtain ⟨ts,ds,q,q2,rfl⟩ : ∃ ts ds,ndT m k p = some (.list ts)∧eraL ts = some ds∧d = .list ds:=by
   unfold asD at e
   simp only at e
   split at e
   ·rename_i ts q
    cases q2:eraL ts with
    | none=>rw [q2] at e; cases e
    | some ds=>rw [q2] at e; cases e; exact ⟨ts,ds,q,q2,rfl⟩
   ·cases e
  obtain ⟨τ,a,v',_,ea,rfl,g⟩:=RelR.node R h q
  have g':=g
  simp only [TAt] at g'
  obtain ⟨a',xs,ea',e3,_⟩:=g'
  rw [ea] at ea'; cases ea'
  subst e3
  exact TAt.reads I (by simp only [eraT,q2,Option.map]) nd g rv
 | newT _=>cases e
abbrev WE:=MSt→(R→MSt→Prop)→Prop
abbrev WT:=MSt→(Bool→MSt→Prop)→Prop
abbrev WA:=MSt→(List R→MSt→Prop)→Prop
def tM (K:Kx) (w:WE):TE:=fun σ H Q=>∃ α m Kc,Rel K α m σ H∧w m Kc∧∀ r m' v H',Kc r m'→m'.np = m.np→Rel K α m' σ H'→RelR K α H H' r v→Frm α H H'→Q v H'
def tMT (K:Kx) (w:WT):TT:=fun σ H Q=>∃ α m Kc,Rel K α m σ H∧w m Kc∧∀ b m' H',Kc b m'→m'.np = m.np→Rel K α m' σ H'→Frm α H H'→Q b H'
inductive RelRs (K:Kd) (α : Al) (Hb H:Hp):List R→List V→Prop where
 | nil:RelRs K α Hb H [] []
 | cons {r:R} {rs:List R} {v:V} {vs:List V}:RelR K α Hb H r v→RelRs K α Hb H rs vs→RelRs K α Hb H (r :: rs) (v :: vs)
def tMA (K:Kx) (w:WA):TA:=fun σ H Q=>∃ α m Kc,Rel K α m σ H∧w m Kc∧∀ rs m' vs H',Kc rs m'→m'.np = m.np→Rel K α m' σ H'→RelRs K α H H' rs vs→Frm α H H'→Q vs H'
theorem PE.wk {X:Cx} {e:Expr} {t t':TE} (h:PE X e t) (k:∀ σ H Q,t' σ H Q→t σ H Q):PE X e t':=fun pins s σ H Q I q=>h pins s σ H Q I (k _ _ _ q)
theorem PT.wk {X:Cx} {e:Expr} {t t':TT} (h:PT X e t) (k:∀ σ H Q,t' σ H Q→t σ H Q):PT X e t':=fun pins s σ H Q I q=>h pins s σ H Q I (k _ _ _ q)
theorem PW.wk {X:Cx} {e:Expr} {t t':TT} (h:PW X e t) (k:∀ σ H Q,t' σ H Q→t σ H Q):PW X e t':=fun wh pins s σ H Q I q=>h wh pins s σ H Q I (k _ _ _ q)
theorem PA.wk {X:Cx} {e:List Expr} {t t':TA} (h:PA X e t) (k:∀ σ H Q,t' σ H Q→t σ H Q):PA X e t':=fun pos pins s σ H Q I q=>h pos pins s σ H Q I (k _ _ _ q)
theorem PS.wk {X:Cx} {e:Stmt} {t t':TS} (h:PS X e t) (k:∀ D σ H,t' D σ H→t D σ H):PS X e t':=fun pins s σ H D I q=>h pins s σ H D I (k _ _ _ q)
theorem PSs.wk {X:Cx} {e:List Stmt} {t t':TS} (h:PSs X e t) (k:∀ D σ H,t' D σ H→t D σ H):PSs X e t':=fun pins s σ H D I q=>h pins s σ H D I (k _ _ _ q)
abbrev ME (X:Cx) (e:Expr) (w:WE):Prop:=PE X e (tM X.kx w)
abbrev MT (X:Cx) (e:Expr) (w:WT):Prop:=PT X e (tMT X.kx w)
abbrev MW (X:Cx) (e:Expr) (w:WT):Prop:=PW X e (tMT X.kx w)
abbrev MA (X:Cx) (es:List Expr) (w:WA):Prop:=PA X es (tMA X.kx w)
section
variable {X:Cx} {a b c:Expr} {es:List Expr} {wa wb wc:WE} {pos:Pos}
def wVar (i:Nat):WE:=fun m K=>∃ r,m.vs[i]? = some (some r)∧K r m
def wC (d:PyData):WE:=fun m K=>K (.imm d) m
theorem Au {t:TE} {w:WE} (h:PE X a t) (k:∀ α m σ H Kc Q,Rel X.kx α m σ H→w m Kc→(∀ r m' v H',Kc r m'→m'.np = m.np→Rel X.kx α m' σ H'→RelR X.kx α H H' r v→Frm α H H'→Q v H')→t σ H Q):ME X a w :=
 h.wk fun σ H Q ⟨α,m,Kc,Rl,hw,fin⟩=>k α m σ H Kc Q Rl hw fin
theorem me_c {d:PyData} {v:V} (h:PE X a (tC v)) (hd:∀ (K:Kd) H,Den K H d v):ME X a (wC d) :=
 Au h fun α m σ H Kc Q Rl hw fin=>fin _ m v H hw rfl Rl (hd _ _) (Frm.refl _ _)
theorem Df {i j pos}:ME X (.Constant (.int i) j pos) (wC (.int i)):=me_c IG fun _ _=>by simp only [Den]
theorem JD {i j pos}:ME X (.Constant (.bool i) j pos) (wC (.bool i)):=me_c Je fun _ _=>by simp only [Den]
theorem Ig {i j pos}:ME X (.Constant (.str i) j pos) (wC (.str i)):=me_c DV fun _ _=>by simp only [Den]
theorem Dt {j pos}:ME X (.Constant .none j pos) (wC .none):=me_c GQ fun _ _=>by simp only [Den]
theorem CP {i:Nat} (h:PE X a (tVar i)):ME X a (wVar i) :=
 Au h fun α m σ H Kc Q Rl hw fin=>by
  obtain ⟨r,e,k⟩:=hw
  obtain ⟨v,ev,rv⟩:=Rl.var i r e
  exact ⟨v,ev,fin r m v H k rfl Rl rv.rr (Frm.refl _ _)⟩
theorem mv (i:Nat) {x:Str} {pos:Pos} (hN:X.N[i]? = some x:=by rfl) (hv:Vis X.env.scope x:=by first | exact Or.inl rfl | exact Or.inr (Or.inl rfl) | exact Or.inr (Or.inr rfl)) (hd:(x == ("__debug__" : Str)) = false:=by decide) (hcd:(x == ("__classdict__" : Str)) = false:=by decide):ME X (.Name x pos) (wVar i):=CP (yT hN hv hd hcd)
abbrev WO:=R→R→MSt→(R→Prop)→Prop
def rM (K:Kx) (o:WO):R2:=fun x y H Q=>∃ α m σ H0 H1 r1 r2 Kc,Rel K α m σ H∧RelR K α H0 H r1 x∧RelR K α H1 H r2 y∧o r1 r2 m Kc∧∀ r v H',Kc r→Rel K α m σ H'→RelR K α H H' r v→Frm α H H'→Q v H'
def wBin (o:WO) (wa wb:WE):WE:=fun m K=>wa m fun r1 m1=>wb m1 fun r2 m2=>o r1 r2 m2 fun r=>K r m2
theorem lg {o:WO} {σ : St} {H:Hp} {Q:VK} (h:tM X.kx (wBin o wa wb) σ H Q):tOp (rM X.kx o) (tM X.kx wa) (tM X.kx wb) σ H Q:=by
 obtain ⟨α,m,Kc,Rl,hw,fin⟩:=h
 refine ⟨α,m,_,Rl,hw,fun r1 m1 x H1 k1 n1 Rl1 rr1 F1=>⟨α,m1,_,Rl1,k1,fun r2 m2 y H2 k2 n2 Rl2 rr2 F2=>?_⟩⟩
 refine ⟨α,m2,σ,H,H1,r1,r2,_,Rl2,rr1.keep Rl Rl1 F2,rr2,k2,fun r v H' k Rl' rr F=>?_⟩
 exact fin r m2 v H' k (n2.trans n1) Rl' (rr.base Rl2 (F1.trans F2)) ((F1.trans F2).trans F)
theorem Fm {op:Operator} {o:WO} (ho:OpR X (binaryOp op) (rM X.kx o)) (ha:ME X a wa) (hb:ME X b wb):ME X (.BinOp a op b pos) (wBin o wa wb):=(Js ho ha hb).wk fun _ _ _ h=>lg h
theorem GM {op:CmpOp} {o:WO} (ho:OpR X (compareOp op) (rM X.kx o)) (ha:ME X a wa) (hb:ME X b wb) (hm:behindInMarks op b = false):ME X (.Compare a [op] [b] pos) (wBin o wa wb):=(B7 ho ha hb hm).wk fun _ _ _ h=>lg h
def onBl (P:Bool→Prop):R→Prop
 | .imm (.bool k)=>P k
 | _=>False
theorem on {K:Kx} {α : Al} {Hb H:Hp} {r:R} {v:V} {P:Bool→Prop} (rr:RelR K α Hb H r v) (h:onBl P r):∃ b,r = .imm (.bool b)∧v = .bl b∧P b:=by
 cases r with
 | obj _=>exact h.elim
 | new _=>exact h.elim
 | «at» _ _=>exact h.elim
 | newT _=>exact h.elim
 | imm d =>
  cases d with
  | bool b =>
   have e:Den K H (.bool b) v:=rr
   simp only [Den] at e
   exact ⟨b,rfl,e,h⟩
  | none=>exact h.elim
  | int _=>exact h.elim
  | str _=>exact h.elim
  | list _=>exact h.elim
  | tuple _=>exact h.elim
  | dict _=>exact h.elim
def qc (w:WE):WT:=fun m K=>w m fun r m'=>onBl (fun k=>K k m') r
theorem sV {t:TE} {σ : St} {H:Hp} {Q:Bool→Hp→Prop} {w:WE} (k:∀ Q',tM X.kx w σ H Q'→t σ H Q') (h:tMT X.kx (qc w) σ H Q):Gh t σ H Q:=by
 obtain ⟨α,m,Kc,Rl,hw,fin⟩:=h
 refine k _ ⟨α,m,_,Rl,hw,fun r m' v H' kk n1 Rl' rr F=>?_⟩
 obtain ⟨b,er,ev,kk⟩:=on rr kk
 exact ⟨b,ev,fin b m' H' kk n1 Rl' F⟩
theorem II {op:CmpOp} {o:WO} (ho:OpR X (compareOp op) (rM X.kx o)) (ha:ME X a wa) (hb:ME X b wb) (hm:behindInMarks op b = false):MT X (.Compare a [op] [b] pos) (qc (wBin o wa wb)):=(AB ho ha hb hm).wk fun _ _ _ h=>sV (fun _=>lg) h
theorem D4 (ha:ME X a wa) (he:∀ whole,isTrue a X.env whole = (do let v ← whole; standAt a.pos; holding [v] (truthy v)):=by intro _; rfl):MT X a (qc wa):=(Dh ha he).wk fun _ _ _ h=>sV (t:=tM X.kx wa) (fun _ h=>h) h
def o9 (o o':WO) (wa wb wc:WE):WE:=fun m K=>wa m fun r1 m1=>wb m1 fun r2 m2=>o r1 r2 m2 (onBl fun k=>if k = true then wc m2 fun r3 m3=>o' r2 r3 m3 fun r=>K r m3 else K (.imm (.bool false)) m2)
end
section
variable {X:Cx} {a b c:Expr} {es:List Expr} {wa wb wc:WE} {pos:Pos}
theorem xR {o o':WO} {σ : St} {H:Hp} {Q:VK} (h:tM X.kx (o9 o o' wa wb wc) σ H Q):yY (rM X.kx o) (rM X.kx o') (tM X.kx wa) (tM X.kx wb) (tM X.kx wc) σ H Q:=by
 obtain ⟨α,m,Kc,Rl,hw,fin⟩:=h
 refine ⟨α,m,_,Rl,hw,fun r1 m1 x H1 k1 n1 Rl1 rr1 F1=>⟨α,m1,_,Rl1,k1,fun r2 m2 y H2 k2 n2 Rl2 rr2 F2=>?_⟩⟩
 refine ⟨α,m2,σ,H,H1,r1,r2,_,Rl2,rr1.keep Rl Rl1 F2,rr2,k2,fun r v H3 k Rl3 rr F3=>?_⟩
 obtain ⟨bb,er,ev,kk⟩:=on rr k
 subst er ev
 refine ⟨bb,rfl,?_⟩
 have F03:=(F1.trans F2).trans F3
 cases bb with
 | true =>
  rw [if_pos rfl] at kk ⊢
  refine ⟨α,m2,_,Rl3,kk,fun r3 m3 z H4 k3 n3 Rl4 rr4 F4=>?_⟩
  have rr2':=((rr2.keep Rl1 Rl2 F3).keep Rl1 Rl3 F4)
  exact ⟨α,m3,σ,H1,H3,r2,r3,_,Rl4,rr2',rr4,k3,fun r v H' k Rl' rr F=>fin r m3 v H' k (n3.trans (n2.trans n1)) Rl' (rr.base Rl4 (F03.trans F4)) ((F03.trans F4).trans F)⟩
 | false =>
  rw [if_neg Bool.false_ne_true] at kk ⊢
  exact fin _ m2 _ H3 kk (n2.trans n1) Rl3 (show Den X.kx H3 (.bool false) (.bl false) by simp only [Den]) F03
theorem ye {op op':CmpOp} {o o':WO} (ho:OpR X (compareOp op) (rM X.kx o)) (ho':OpR X (compareOp op') (rM X.kx o')) (ha:ME X a wa) (hb:ME X b wb) (hc:ME X c wc)
  (hm:lastMarks [op,op'] [b,c] = false:=by with_unfolding_all rfl):ME X (.Compare a [op,op'] [b,c] pos) (o9 o o' wa wb wc):=(vI ho ho' ha hb hc hm).wk fun _ _ _ h=>xR h
variable {wt wu:WT} {rest:List Expr}
def wAnd (t u:WT):WT:=fun m K=>t m fun c m1=>if c = true then u m1 K else K false m1
def wOr (t u:WT):WT:=fun m K=>t m fun c m1=>if c = true then K true m1 else u m1 K
def wNot (t:WT):WT:=fun m K=>t m fun c m1=>K (!c) m1
theorem AY (ha:MT X a wt):MW X (.BoolOp .And [a] pos) wt:=zl ha
theorem DI (ha:MT X a wt):MW X (.BoolOp .Or [a] pos) wt:=E9 ha
theorem IA (ha:MT X a wt) (hb:MW X (.BoolOp .And (b :: rest) pos) wu):MW X (.BoolOp .And (a :: b :: rest) pos) (wAnd wt wu):=(GI ha hb).wk fun σ H Q ⟨α,m,Kc,Rl,hw,fin⟩=>by
 refine ⟨α,m,_,Rl,hw,fun bb m1 H1 k n1 Rl1 F1=>?_⟩
 cases bb with
 | true=>rw [if_pos rfl] at k ⊢; exact ⟨α,m1,Kc,Rl1,k,fun b2 m2 H2 k2 n2 Rl2 F2=>fin b2 m2 H2 k2 (n2.trans n1) Rl2 (F1.trans F2)⟩
 | false=>rw [if_neg Bool.false_ne_true] at k ⊢; exact fin _ m1 H1 k n1 Rl1 F1
theorem Jr (ha:MT X a wt) (hb:MW X (.BoolOp .Or (b :: rest) pos) wu):MW X (.BoolOp .Or (a :: b :: rest) pos) (wOr wt wu):=(IZ ha hb).wk fun σ H Q ⟨α,m,Kc,Rl,hw,fin⟩=>by
 refine ⟨α,m,_,Rl,hw,fun bb m1 H1 k n1 Rl1 F1=>?_⟩
 cases bb with
 | true=>rw [if_pos rfl] at k ⊢; exact fin _ m1 H1 k n1 Rl1 F1
 | false=>rw [if_neg Bool.false_ne_true] at k ⊢; exact ⟨α,m1,Kc,Rl1,k,fun b2 m2 H2 k2 n2 Rl2 F2=>fin b2 m2 H2 k2 (n2.trans n1) Rl2 (F1.trans F2)⟩
theorem C8 (ha:MT X a wt):MT X (.UnaryOp .Not a pos) (wNot wt):=(DQ ha).wk fun σ H Q ⟨α,m,Kc,Rl,hw,fin⟩ =>
 ⟨α,m,_,Rl,hw,fun bb m1 H1 k n1 Rl1 F1=>fin _ m1 H1 k n1 Rl1 F1⟩
def B0 (wa wb:WE):WE:=fun m K=>wa m fun r m1=>onBl (fun c=>if c = true then wb m1 K else K (.imm (.bool false)) m1) r
def zf (wa:WE):WE:=fun m K=>wa m fun r m1=>onBl (fun c=>K (.imm (.bool (!c))) m1) r
theorem uY {K:Kd} {H:Hp} (b:Bool):Den K H (.bool b) (.bl b):=by simp only [Den]
theorem mJ {K:Kd} {H:Hp} (b:Int):Den K H (.int b) (.int b):=by simp only [Den]
theorem CK {K:Kd} {H:Hp} (b:Str):Den K H (.str b) (.str b):=by simp only [Den]
theorem Ai {K:Kd} {H:Hp}:Den K H .none .non:=by simp only [Den]
theorem CZ {op} (h:ME X a wa):ME X (.BoolOp op [a] pos) wa:=Da h
theorem Iw (ha:ME X a wa) (hb:ME X (.BoolOp .And (b :: rest) pos) wb):ME X (.BoolOp .And (a :: b :: rest) pos) (B0 wa wb):=(DN ha hb).wk fun σ H Q ⟨α,m,Kc,Rl,hw,fin⟩=>by
 refine ⟨α,m,_,Rl,hw,fun r m1 v H1 k n1 Rl1 rr F1=>?_⟩
 obtain ⟨bb,er,ev,kk⟩:=on rr k
 subst er ev
 refine ⟨bb,rfl,?_⟩
 cases bb with
 | true=>rw [if_pos rfl] at kk ⊢; exact ⟨α,m1,Kc,Rl1,kk,fun r m2 v H2 k2 n2 Rl2 rr2 F2=>fin r m2 v H2 k2 (n2.trans n1) Rl2 (rr2.base Rl1 F1) (F1.trans F2)⟩
 | false=>rw [if_neg Bool.false_ne_true] at kk ⊢; exact fin _ m1 _ H1 kk n1 Rl1 (uY (K:=X.kx) (H:=H1) _) F1
theorem Ga (ha:ME X a wa):ME X (.UnaryOp .Not a pos) (zf wa):=(DU ha).wk fun σ H Q ⟨α,m,Kc,Rl,hw,fin⟩=>by
 refine ⟨α,m,_,Rl,hw,fun r m1 v H1 k n1 Rl1 rr F1=>?_⟩
 obtain ⟨bb,er,ev,kk⟩:=on rr k
 subst er ev
 exact ⟨bb,rfl,fin _ m1 _ H1 kk n1 Rl1 (uY (K:=X.kx) (H:=H1) _) F1⟩
def wIfE (t:WT) (wa wb:WE):WE:=fun m K=>t m fun c m1=>if c = true then wa m1 K else wb m1 K
theorem JA {t:Expr} (ht:MT X t wt) (ha:ME X a wa) (hb:ME X b wb):ME X (.IfExp t a b pos) (wIfE wt wa wb):=(xJ ht ha hb).wk fun σ H Q ⟨α,m,Kc,Rl,hw,fin⟩=>by
 refine ⟨α,m,_,Rl,hw,fun bb m1 H1 k n1 Rl1 F1=>?_⟩
 cases bb with
 | true=>rw [if_pos rfl] at k ⊢; exact ⟨α,m1,Kc,Rl1,k,fun r m2 v H2 k2 n2 Rl2 rr2 F2=>fin r m2 v H2 k2 (n2.trans n1) Rl2 (rr2.base Rl1 F1) (F1.trans F2)⟩
 | false=>rw [if_neg Bool.false_ne_true] at k ⊢; exact ⟨α,m1,Kc,Rl1,k,fun r m2 v H2 k2 n2 Rl2 rr2 F2=>fin r m2 v H2 k2 (n2.trans n1) Rl2 (rr2.base Rl1 F1) (F1.trans F2)⟩
abbrev WU:=R→MSt→(R→Prop)→Prop
def uM (K:Kx) (o:WU):V→Hp→VK→Prop:=fun x H Q=>∃ α m σ H0 r1 Kc,Rel K α m σ H∧RelR K α H0 H r1 x∧o r1 m Kc∧∀ r v H',Kc r→Rel K α m σ H'→RelR K α H H' r v→Frm α H H'→Q v H'
def wUn (o:WU) (wa:WE):WE:=fun m K=>wa m fun r1 m1=>o r1 m1 fun r=>K r m1
theorem JJ {op:UnaryOp} {o:WU} (ho:UnR X (unaryOp op) (uM X.kx o)) (ha:ME X a wa):ME X (.UnaryOp op a pos) (wUn o wa):=(Kg ho ha).wk fun σ H Q ⟨α,m,Kc,Rl,hw,fin⟩ =>
 ⟨α,m,_,Rl,hw,fun r1 m1 x H1 k1 n1 Rl1 rr1 F1=>⟨α,m1,σ,H,r1,_,Rl1,rr1,k1,fun r v H' k Rl' rr F=>fin r m1 v H' k n1 Rl' (rr.base Rl1 F1) (F1.trans F)⟩⟩
def tFz (t:TE):TE:=fun σ H Q=>t σ H fun v H1=>Q v H1∨∃ a xs,H1 a = some (.lst xs)∧∀ o,Q v (upd H1 a (.frz o (.lst xs)))
theorem KG {t:TE} (h:PE X a t):PE X a (tFz t):=by
 intro pins s σ H Q I q
 refine thn (h pins s σ H _ I q) fun u s1 ⟨v,H1,I1,r1,q1⟩=>?_
 rcases q1 with q1 | ⟨p,xs,e,q1⟩
 ·exact ⟨v,H1,I1,r1,q1⟩
 ·obtain ⟨o,I2⟩:=I1.freeze e
  exact ⟨v,_,I2,r1,q1 o⟩
theorem Rel.at {K:Kx} {α : Al} {m:MSt} {σ : St} {H H':Hp} (R:Rel K α m σ H) (p:Pers H H') (e:∀ a∈ads α,H' a = H a) (x:Frm α H H'):Rel K α m σ H':=by
 refine ⟨R.nd,R.len,fun k ao ds h1 h2=>?_,R.vlen,fun i r h=>?_,R.npl,R.ebl,R.ebx.trans ⟨rfl,x,fun _ h=>.inl h,fun a ha=>?_⟩⟩
 ·exact (R.own k ao ds h1 h2).mono p fun a ha=>e a (List.mem_flatMap.mpr ⟨ao,List.mem_of_getElem? h1,ha⟩)
 ·obtain ⟨v,ev,rv⟩:=R.var i r h
  refine ⟨v,ev,?_⟩
  cases r with
  | imm d=>exact Den.mono p rv
  | obj k=>exact rv
  | «at» k p=>exact rv
  | new ds=>exact rv
  | newT t=>exact rv
 ·obtain ⟨o,q,_⟩:=R.mem ha
  exact ⟨o,(e a ha).trans q⟩
theorem Rel.at' {K:Kx} {α : Al} {m:MSt} {σ : St} {H H':Hp} (R:Rel K α m σ H) (p:Pers H H') (e:∀ a∈ads α,H' a = H a) (x:Ext K.eb.np K.eb.be K.eb.H α H'):Rel K α m σ H':=by
 refine ⟨R.nd,R.len,fun k ao ds h1 h2=>?_,R.vlen,fun i r h=>?_,R.npl,R.ebl,x⟩
 ·exact (R.own k ao ds h1 h2).mono p fun a ha=>e a (List.mem_flatMap.mpr ⟨ao,List.mem_of_getElem? h1,ha⟩)
 ·obtain ⟨v,ev,rv⟩:=R.var i r h
  refine ⟨v,ev,?_⟩
  cases r with
  | imm d=>exact Den.mono p rv
  | obj k=>exact rv
  | «at» k p=>exact rv
  | new ds=>exact rv
  | newT t=>exact rv
theorem aZ {H:Hp} {a:Addr} {o:HO} (h:H a = none∨∃ u,H a = some u∧Mu u = true):Pers H (upd H a o) where
 tups:=fun b xs e=>by
  rw [av]; exact e
  rintro rfl
  rcases h with h | ⟨ys,h,z⟩ <;> (rw [e] at h; cases h)
  cases z
 frzs:=fun b o u e=>by
  rw [av]; exact e
  rintro rfl
  rcases h with h | ⟨ys,h,z⟩ <;> (rw [e] at h; cases h)
  cases z
theorem ph {H:Hp} {a:Addr} {o:HO} {xs:List V} (h:H a = some (.lst xs)):Pers H (upd H a o):=aZ (.inr ⟨_,h,rfl⟩)
theorem bR {α : Al} {H:Hp} {a:Addr} {o:HO} (h:H a = none):Frm α H (upd H a o):=fun b ob e _=>by
 rw [av (aU e h)]; exact e
theorem Rel.lay {K:Kx} {α : Al} {m:MSt} {σ : St} {H:Hp} {a:Addr} {o:HO} (R:Rel K α m σ H) (h:H a = none):Rel K α m σ (upd H a o) :=
 R.at (aZ (.inl h)) (fun b hb=>av fun e=>R.out h (e▸hb)) (bR h)
def wImm (w:WE):WE:=fun m K=>w m fun r m'=>match r with | .imm d=>K (.imm d) m' | .new ds=>K (.imm (.list ds)) m' | _=>False
theorem FM (ha:ME X a wa):ME X a (wImm wa):=(KG ha).wk fun σ H Q ⟨α,m,Kc,Rl,hw,fin⟩=>by
 refine ⟨α,m,_,Rl,hw,fun r m1 v H1 k n1 Rl1 rr F1=>?_⟩
 cases r with
 | imm d=>exact .inl (fin _ m1 v H1 k n1 Rl1 rr F1)
 | obj _=>exact k.elim
 | «at» _ _=>exact k.elim
 | newT _=>exact k.elim
 | new ds =>
  obtain ⟨p,xs,ev,n,q,g⟩:=rr
  refine .inr ⟨p,xs,q,fun o=>?_⟩
  have pe:Pers H1 (upd H1 p (.frz o (.lst xs))):=ph q
  have fr:Frm α H (upd H1 p (.frz o (.lst xs))):=fun b ob e nb=>by
   rw [av (aU e n)]
   exact F1 b ob e nb
  have old:Ext X.kx.eb.np α H α (upd H1 p (.frz o (.lst xs))):=⟨rfl,fr,fun _ h=>.inl h,fun b hb=>by
   have hbp:b≠p:=fun e=>Rl.out n (e▸hb)
   rw [av hbp]
   obtain ⟨o',e',_⟩:=Rl1.mem hb
   exact ⟨o',e'⟩⟩
  refine fin _ m1 v _ k n1 (Rl1.at' pe (fun b hb=>av fun e=>Rl.out n (e▸hb)) (Rl.ebx.trans old)) (show Den X.kx _ (.list ds) v from ?_) fun b ob e nb=>?_
  ·simp only [Den]
   exact ⟨p,xs,ev,.inl ⟨o,aC⟩,g.mono pe⟩
  ·rw [av (aU e n)]
   exact F1 b ob e nb
def wNil:WA:=fun m K=>K [] m
def zj (w:WE) (ws:WA):WA:=fun m K=>w m fun r m1=>ws m1 fun rs m2=>K (r :: rs) m2
theorem RelRs.base {K:Kx} {α : Al} {m:MSt} {σ : St} {H0 H H':Hp} (Rl:Rel K α m σ H) (F:Frm α H0 H):∀ {rs:List R} {vs:List V},RelRs K α H H' rs vs→RelRs K α H0 H' rs vs
 | _,_,.nil=>.nil
 | _,_,.cons h t=>.cons (h.base Rl F) (t.base Rl F)
variable {ws:WA}
theorem IL:MA X [] wNil:=(yV (X:=X)).wk fun σ H Q ⟨α,m,Kc,Rl,hw,fin⟩=>fin _ m _ H hw rfl Rl .nil (Frm.refl _ _)
theorem AZ (ha:ME X a wa) (hr:MA X es ws) (hs:starEach (a :: es) X.env = (false,eval a X.env) :: starEach es X.env:=by first | exact aD rfl | rfl):MA X (a :: es) (zj wa ws):=(mj ha hr hs).wk fun σ H Q ⟨α,m,Kc,Rl,hw,fin⟩ =>
 ⟨α,m,_,Rl,hw,fun r m1 v H1 k n1 Rl1 rr F1=>⟨α,m1,_,Rl1,k,fun rs m2 vs H2 k2 n2 Rl2 rr2 F2=>fin _ m2 _ H2 k2 (n2.trans n1) Rl2 (.cons (rr.keep Rl Rl1 F2) (rr2.base Rl1 F1)) (F1.trans F2)⟩⟩
def dq:List R→Option (List PyData)
 | []=>some []
 | .imm d :: rs=>(dq rs).map (d :: ·)
 | _ :: _=>none
theorem RelRs.imm {K:Kx} {α : Al} {H0 H:Hp}:∀ {rs:List R} {vs:List V} {ds:List PyData},RelRs K α H0 H rs vs→dq rs = some ds→DenAll K H ds vs
 | _,_,_,.nil,e=>by cases e; exact DenAll.nil
 | _,_,ds,.cons (r:=.imm d) (rs:=rs) h t,e=>by
  simp only [dq] at e
  cases q:dq rs with
  | none=>rw [q] at e; cases e
  | some ds'=>rw [q] at e; cases e; exact DenAll.cons h (t.imm q)
 | _,_,_,.cons (r:=.obj _) h t,e=>by cases e
 | _,_,_,.cons (r:=.new _) h t,e=>by cases e
 | _,_,_,.cons (r:=.at _ _) h t,e=>by cases e
 | _,_,_,.cons (r:=.newT _) h t,e=>by cases e
def u3 (P:List PyData→Prop):Option (List PyData)→Prop
 | some ds=>ds.length≤sizeLine∧P ds
 | none=>False
def wTup (ws:WA):WE:=fun m K=>ws m fun rs m'=>u3 (fun ds=>K (.imm (.tuple ds)) m') (dq rs)
def wLst (ws:WA):WE:=fun m K=>ws m fun rs m'=>u3 (fun ds=>K (.new ds) m') (dq rs)
theorem DT {x1} (h:MA X es ws):ME X (.Tuple es x1 pos) (wTup ws):=(DR h).wk fun σ H Q ⟨α,m,Kc,Rl,hw,fin⟩=>by
 refine ⟨α,m,_,Rl,hw,fun rs m1 vs H1 k n1 Rl1 rr F1=>?_⟩
 cases e:dq rs with
 | none=>rw [e] at k; exact k.elim
 | some ds =>
  rw [e] at k
  obtain ⟨hz,k⟩:=k
  have g:=rr.imm e
  refine ⟨by rw [←g.length]; exact hz,fun p hp=>fin _ m1 _ _ k n1 (Rl1.lay hp) (show Den X.kx _ (.tuple ds) (.ref p) from ?_) (F1.trans (bR hp))⟩
  simp only [Den]
  exact ⟨p,vs,rfl,SqT.of aC,g.mono (aZ (.inl hp))⟩
theorem Ii (h:MA X es ws):ME X (.List es pos) (wLst ws):=(Gu h).wk fun σ H Q ⟨α,m,Kc,Rl,hw,fin⟩=>by
 refine ⟨α,m,_,Rl,hw,fun rs m1 vs H1 k n1 Rl1 rr F1=>?_⟩
 cases e:dq rs with
 | none=>rw [e] at k; exact k.elim
 | some ds =>
  rw [e] at k
  obtain ⟨hz,k⟩:=k
  have g:=rr.imm e
  refine ⟨by rw [←g.length]; exact hz,fun p hp=>fin _ m1 _ _ k n1 (Rl1.lay hp) ((RelR.base Rl1 F1 (show RelR X.kx α H1 _ (.new ds) (.ref p) from ⟨p,vs,rfl,hp,aC,g.mono (aZ (.inl hp))⟩))) (F1.trans (bR hp))⟩
abbrev WC:=List R→MSt→(R→Prop)→Prop
def cM (K:Kx) (o:WC):List V→Hp→VK→Prop:=fun xs H Q=>∃ α m σ H0 rs Kc,Rel K α m σ H∧RelRs K α H0 H rs xs∧o rs m Kc∧∀ r v H',Kc r→Rel K α m σ H'→RelR K α H H' r v→Frm α H H'→Q v H'
def wCB (o:WC) (ws:WA):WE:=fun m K=>ws m fun rs m1=>o rs m1 fun r=>K r m1
theorem Io {o:WC} {σ : St} {H:Hp} {Q:VK} (h:tM X.kx (wCB o ws) σ H Q):tCB (cM X.kx o) (tMA X.kx ws) σ H Q:=by
 obtain ⟨α,m,Kc,Rl,hw,fin⟩:=h
 exact ⟨α,m,_,Rl,hw,fun rs m1 vs H1 k n1 Rl1 rr F1=>⟨α,m1,σ,H,rs,_,Rl1,rr,k,fun r v H' k Rl' rr' F=>fin r m1 v H' k n1 Rl' (rr'.base Rl1 F1) (F1.trans F)⟩⟩
theorem xx {id:String} {x:Str} {p:Pos} {o:WC} (hc:b9 X (.builtin id) (cM X.kx o)) (hg:Gl X x) (hm:X.mg x = none) (hv:bootBuiltins x = some (.builtin id)) (ha:MA X (a :: es) ws) (hn:x ≠ "__name__" := by decide) (hdb:(x == ("__debug__" : Str)) = false:=by decide)
  (he:starEach (a :: es) X.env = (false,eval a X.env) :: starEach es X.env:=by first | exact aD rfl | rfl) (hpl:(backTo pos (starEach es X.env)).any (·.1) = false:=by rfl):ME X (.Call (.Name x p) (a :: es) [] pos) (wCB o ws):=(nW hc hg hm hv ha hn hdb he hpl).wk fun _ _ _ h=>Io h
theorem uR {T:String} {x:Str} {p:Pos} {o:WC} (hc:b9 X (.type T) (cM X.kx o)) (hg:Gl X x) (hm:X.mg x = none) (hv:bootBuiltins x = some (.type T)) (ha:MA X (a :: es) ws) (hn:x ≠ "__name__" := by decide) (hdb:(x == ("__debug__" : Str)) = false:=by decide)
  (he:starEach (a :: es) X.env = (false,eval a X.env) :: starEach es X.env:=by first | exact aD rfl | rfl) (hpl:(backTo pos (starEach es X.env)).any (·.1) = false:=by rfl):ME X (.Call (.Name x p) (a :: es) [] pos) (wCB o ws):=(tm hc hg hm hv ha hn hdb he hpl).wk fun _ _ _ h=>Io h
end
inductive Ag where
 | imm (d:PyData) | own (ds:List PyData) | tr (t:PyData)
abbrev SpM:=List Ag→(R→List (List PyData)→Prop)→Prop
inductive RelAs (K:Kd) (H:Hp):List Ag→List V→Al→Prop where
 | nil:RelAs K H [] [] []
 | imm {d:PyData} {v:V} {as:List Ag} {vs:List V} {β : Al}:Den K H d v→RelAs K H as vs β→RelAs K H (.imm d :: as) (v :: vs) β
 | own {ds:List PyData} {a:Addr} {as:List Ag} {vs:List V} {β : Al}:OwnAt K H (.L a) ds→RelAs K H as vs β→RelAs K H (.own ds :: as) (.ref a :: vs) (.L a :: β)
 | tr {t:PyData} {a:Addr} {τ : List (List Nat×Addr)} {as:List Ag} {vs:List V} {β : Al}:OwnAt K H (.T τ) [t]→τ.lookup [] = some a→RelAs K H as vs β→RelAs K H (.tr t :: as) (.ref a :: vs) (.T τ :: β)
theorem RelAs.length {K:Kd} {H:Hp}:∀ {as:List Ag} {vs:List V} {β : Al},RelAs K H as vs β→as.length = vs.length
 | _,_,_,.nil=>rfl
 | _,_,_,.imm _ t=>by simp [t.length]
 | _,_,_,.own _ t=>by simp [t.length]
 | _,_,_,.tr _ _ t=>by simp [t.length]
structure s9 (K:Kd) (H:Hp) (β : Al) (outs:List (List PyData)):Prop where
 len:outs.length = β.length
 at_:∀ (j:Nat) (ao:Ao) (ds:List PyData),β[j]? = some ao→outs[j]? = some ds→OwnAt K H ao ds
def spOf (K:Kd) (n:Nat) (sp:SpM):Sp:=fun vs H Q _=>∃ as β Kc,as.length = n∧(ads β).Nodup∧RelAs K H as vs β∧sp as Kc∧∀ r outs v H',Kc r outs→s9 K H' β outs→RelR K β H H' r v→Frm β H H'→Q v H'
theorem spOf.len {K:Kd} {n:Nat} {sp:SpM} {vs:List V} {H:Hp} {Q:VK} {E:XK} (h:spOf K n sp vs H Q E):vs.length = n:=by
 obtain ⟨as,β,Kc,hl,_,r,_⟩:=h
 rw [←r.length]; exact hl
def d4 (m:MSt):List R→Option (List Ag×List Nat)
 | []=>some ([],[])
 | .imm d :: rs=>match d4 m rs with | some (as,ks)=>some (.imm d :: as,ks) | none=>none
 | .obj k :: rs=>match m.os[k]?,d4 m rs with | some ds,some (as,ks)=>some (.own ds :: as,k :: ks) | _,_=>none
 | .at k [] :: rs=>match m.os[k]?,d4 m rs with | some [t],some (as,ks)=>some (.tr t :: as,k :: ks) | _,_=>none
 | _ :: _=>none
def bC:List (List PyData)→List Nat→List (List PyData)→List (List PyData)
 | os,k :: ks,o :: outs=>bC (os.set k o) ks outs
 | os,_,_=>os
def mapR (ks:List Nat):R→R
 | .imm d=>.imm d
 | .new ds=>.new ds
 | .obj j=>.obj (ks.getD j 0)
 | .at j p=>.at (ks.getD j 0) p
 | .newT t=>.newT t
def va (sp:SpM) (ws:WA):WE:=fun m K=>ws m fun rs m1=>match d4 m1 rs with
 | some (as,ks)=>ks.Nodup∧sp as fun r outs=>K (mapR ks r) { m1 with os:=bC m1.os ks outs }
 | none=>False
theorem gf:∀ (ks:List Nat) (os outs:List (List PyData)),(bC os ks outs).length = os.length
 | [],_,_=>by simp [bC]
 | _ :: _,_,[]=>by simp [bC]
 | k :: ks,os,o :: outs=>by simp [bC,gf ks]
theorem gq:∀ (ks:List Nat) (os outs:List (List PyData)) (k:Nat),k∉ks→(bC os ks outs)[k]? = os[k]?
 | [],_,_,_,_=>by simp [bC]
 | _ :: _,_,[],_,_=>by simp [bC]
 | k' :: ks,os,o :: outs,k,h=>by
  rw [List.mem_cons] at h
  rw [not_or] at h
  show (bC (os.set k' o) ks outs)[k]? = _
  rw [gq ks _ _ k h.2,List.getElem?_set_ne (Ne.symm h.1)]
theorem lf:∀ (ks:List Nat) (os outs:List (List PyData)) (j k:Nat) (ds:List PyData),ks.Nodup→ks[j]? = some k→outs[j]? = some ds→k < os.length→(bC os ks outs)[k]? = some ds
 | [],_,_,_,_,_,_,h,_,_=>by simp at h
 | _ :: _,_,[],_,_,_,_,_,h,_=>by simp at h
 | k' :: ks,os,o :: outs,0,k,ds,nd,h1,h2,hk=>by
  simp at h1 h2; subst h1; subst h2
  show (bC (os.set k' o) ks outs)[k']? = _
  rw [gq ks _ _ k' (List.nodup_cons.mp nd).1,List.getElem?_set_self hk]
 | k' :: ks,os,o :: outs,j + 1,k,ds,nd,h1,h2,hk=>by
  exact lf ks (os.set k' o) outs j k ds (List.nodup_cons.mp nd).2 (by simpa using h1) (by simpa using h2) (by simpa using hk)
theorem dI (α : Al):(ads α).Nodup↔(∀ ao∈α,ao.ads.Nodup)∧α.Pairwise fun x y=>∀ a∈x.ads,∀ b∈y.ads,a≠b:=List.pairwise_flatMap
theorem fe {α : Al} (nd:(ads α).Nodup) {i j:Nat} {x y:Ao} (hi : α[i]? = some x) (hj : α[j]? = some y) (h:i≠j) {a:Addr} (hx:a∈x.ads) (hy:a∈y.ads):False:=by
 have pw:=((dI α).mp nd).2
 obtain ⟨p1,q1⟩:=List.getElem?_eq_some_iff.mp hi
 obtain ⟨p2,q2⟩:=List.getElem?_eq_some_iff.mp hj
 subst q1 q2
 rcases Nat.lt_or_gt_of_ne h with l | l
 ·exact List.pairwise_iff_getElem.mp pw i j p1 p2 l a hx a hy rfl
 ·exact List.pairwise_iff_getElem.mp pw j i p2 p1 l a hy a hx rfl
theorem jJ {α : Al} {i:Nat} {x:Ao} (hi : α[i]? = some x) {a:Addr} (h:a∈x.ads):a∈ads α:=List.mem_flatMap.mpr ⟨x,List.mem_of_getElem? hi,h⟩
theorem ii {α : Al} {a:Addr} (h:a∈ads α):∃ (i:Nat) (x:Ao),α[i]? = some x∧a∈x.ads:=by
 obtain ⟨ao,h1,h2⟩:=List.mem_flatMap.mp h
 obtain ⟨k,hk,e⟩:=List.mem_iff_getElem.mp h1
 exact ⟨k,ao,by rw [List.getElem?_eq_getElem hk,e],h2⟩
section
variable {K:Kx} {α : Al} {m:MSt} {σ : St} {H H0 H':Hp}
theorem dr (Rl:Rel K α m σ H):∀ {rs:List R} {vs:List V} {as:List Ag} {ks:List Nat},RelRs K α H0 H rs vs→d4 m rs = some (as,ks)→∃ β,RelAs K H as vs β∧Paired (fun (k:Nat) (ao:Ao)=>α[k]? = some ao) ks β
 | _,_,_,_,.nil,e=>by cases e; exact ⟨[],.nil,.nil⟩
 | _,_,as,ks,.cons (r:=.imm d) (rs:=rs) h t,e=>by
  simp only [d4] at e
  cases q:d4 m rs with
  | none=>rw [q] at e; cases e
  | some p =>
   obtain ⟨as',ks'⟩:=p
   rw [q] at e; cases e
   obtain ⟨β,h1,h2⟩:=dr Rl t q
   exact ⟨β,.imm h h1,h2⟩
 | _,_,as,ks,.cons (r:=.obj k) (rs:=rs) h t,e=>by
  simp only [d4] at e
  cases q1:m.os[k]? with
  | none=>rw [q1] at e; cases e
  | some ds =>
   cases q:d4 m rs with
   | none=>rw [q1,q] at e; cases e
   | some p =>
    obtain ⟨as',ks'⟩:=p
    rw [q1,q] at e; cases e
    obtain ⟨β,h1,h2⟩:=dr Rl t q
    obtain ⟨a,ea,rfl⟩:=h
    exact ⟨.L a :: β,.own (Rl.own k _ ds ea q1) h1,.cons ea h2⟩
 | _,_,as,ks,.cons (r:=.at k []) (rs:=rs) h t,e=>by
  simp only [d4] at e
  split at e
  ·rename_i t' as' ks' q1 q
   cases e
   obtain ⟨β,h1,h2⟩:=dr Rl t q
   obtain ⟨τ,a,ea,el,rfl⟩:=h
   exact ⟨.T τ :: β,.tr (Rl.own k _ _ ea q1) el h1,.cons ea h2⟩
  ·cases e
 | _,_,_,_,.cons (r:=.at _ (_ :: _)) h t,e=>by cases e
 | _,_,_,_,.cons (r:=.new _) h t,e=>by cases e
 | _,_,_,_,.cons (r:=.newT _) h t,e=>by cases e
theorem dH (nd:(ads α).Nodup) {ks:List Nat} {β : Al} (h:ks.Nodup) (p:Paired (fun (k:Nat) (ao:Ao)=>α[k]? = some ao) ks β):(ads β).Nodup:=by
 have one:=((dI α).mp nd).1
 induction p with
 | nil=>exact List.nodup_nil
 | @cons k ao ks β e t ih =>
  have ih':=ih (List.nodup_cons.mp h).2
  rw [dI] at ih' ⊢
  refine ⟨fun x hx=>?_,List.pairwise_cons.mpr ⟨fun y hy a ha b hb z=>?_,ih'.2⟩⟩
  ·rcases List.mem_cons.mp hx with rfl | hx
   ·exact one _ (List.mem_of_getElem? e)
   ·exact ih'.1 x hx
  ·subst z
   obtain ⟨j,hj,ej⟩:=List.mem_iff_getElem.mp hy
   obtain ⟨k',e1,e2⟩:=Paired.get2 t (i:=j) (b:=y) (by rw [List.getElem?_eq_getElem hj,ej])
   have ek:k = k':=Classical.byContradiction fun ne=>fe nd e e2 ne ha hb
   exact (List.nodup_cons.mp h).1 (ek▸List.mem_of_getElem? e1)
theorem oo (Rl:Rel K α m σ H) {ks:List Nat} {β : Al} {outs:List (List PyData)} (nd:ks.Nodup) (p:Paired (fun (k:Nat) (ao:Ao)=>α[k]? = some ao) ks β) (O:s9 K H' β outs) (F:Frm β H H') :
  Rel K α { m with os:=bC m.os ks outs } σ H'∧Frm α H H':=by
 have sub:∀ a∈ads β,∃ k ao,k∈ks∧α[k]? = some ao∧a∈ao.ads:=fun a ha=>by
  obtain ⟨j,ao,ej,hm⟩:=ii ha
  obtain ⟨k',e1,e2⟩:=Paired.get2 p ej
  exact ⟨k',ao,List.mem_of_getElem? e1,e2,hm⟩
 have Fα : Frm α H H':=fun b o e n=>F b o e fun z=>by
  obtain ⟨k,ao,_,e2,hm⟩:=sub b z
  exact n (jJ e2 hm)
 have pe:=Rl.pers Fα
 have own':∀ (k:Nat) (ao:Ao) (ds:List PyData),α[k]? = some ao→(bC m.os ks outs)[k]? = some ds→OwnAt K H' ao ds:=fun k ao ds e1 e2'=>by
  have hk:k < m.os.length:=by rw [←Rl.len]; exact (List.getElem?_eq_some_iff.mp e1).1
  by_cases hm:k∈ks
  ·obtain ⟨j,hj,ej⟩:=List.mem_iff_getElem.mp hm
   have z1:ks[j]? = some k:=by rw [List.getElem?_eq_getElem hj,ej]
   obtain ⟨a',z2,z3⟩:=Paired.get' p z1
   rw [e1] at z3; cases z3
   have hj2:j < outs.length:=by rw [O.len]; exact (List.getElem?_eq_some_iff.mp z2).1
   have z4:outs[j]? = some outs[j]:=List.getElem?_eq_getElem hj2
   rw [lf ks m.os outs j k _ nd z1 z4 hk] at e2'
   cases e2'
   exact O.at_ j _ _ z2 z4
  ·rw [gq ks _ _ k hm] at e2'
   have q:=Rl.own k ao ds e1 e2'
   refine q.mono pe fun a ha=>?_
   obtain ⟨o,eo,_⟩:=q.mem ha
   rw [eo]
   refine F a o eo fun z=>?_
   obtain ⟨k2,ao2,hk2,e3,hm2⟩:=sub a z
   exact fe Rl.nd e1 e3 (fun z=>hm (z▸hk2)) ha hm2
 refine ⟨⟨Rl.nd,by show α.length = (bC m.os ks outs).length; rw [gf]; exact Rl.len,own',Rl.vlen,fun i r h=>?_,Rl.npl,Rl.ebl,Rl.ebx.trans ⟨rfl,Fα,fun _ h=>.inl h,fun a ha=>?_⟩⟩,Fα⟩
 ·obtain ⟨v,ev,rv⟩:=Rl.var i r h
  refine ⟨v,ev,?_⟩
  cases r with
  | imm d=>exact Den.mono pe rv
  | obj k=>exact rv
  | «at» k p=>exact rv
  | new ds=>exact rv
  | newT t=>exact rv
 ·obtain ⟨k,ao,e1,hm⟩:=ii ha
  have hk:k < (bC m.os ks outs).length:=by rw [gf,←Rl.len]; exact (List.getElem?_eq_some_iff.mp e1).1
  obtain ⟨o,q,_⟩:=(own' k ao _ e1 (List.getElem?_eq_getElem hk)).mem hm
  exact ⟨o,q⟩
theorem pq {K:Kd} {ks:List Nat} {β : Al} {r:R} {v:V} (p:Paired (fun (k:Nat) (ao:Ao)=>α[k]? = some ao) ks β) (h:RelR K β H H' r v):RelR K α H H' (mapR ks r) v:=by
 have get:∀ {j:Nat} {ao:Ao},β[j]? = some ao→α[ks.getD j 0]? = some ao:=fun {j ao} ea=>by
  obtain ⟨k,z1,z2⟩:=Paired.get2 p ea
  rw [List.getD_eq_getElem?_getD,z1]
  exact z2
 cases r with
 | imm d=>exact h
 | new ds=>exact h
 | newT t=>exact h
 | obj j =>
  obtain ⟨a,ea,e⟩:=h
  exact ⟨a,get ea,e⟩
 | «at» j q =>
  obtain ⟨τ,a,ea,el,e⟩:=h
  exact ⟨τ,a,get ea,el,e⟩
end
section
variable {X:Cx} {a:Expr} {es:List Expr} {ws:WA} {pos p:Pos} {k n:Nat} {f:Addr} {fd:FuncData} {ps:List Str} {sp:SpM} {x:Str} {CX:CXT}
theorem B5 {E:XK} {σ : St} {H:Hp} {Q:VK} (h:tM X.kx (va sp ws) σ H Q) (hn:∀ as Kc,sp as Kc→as.length = n):Fz (spOf X.kd n sp) [] E (tMA X.kx ws) σ H Q:=by
 obtain ⟨α,m,Kc,Rl,hw,fin⟩:=h
 refine ⟨α,m,_,Rl,hw,fun rs m1 vs H1 kk n1 Rl1 rr F1=>?_⟩
 cases e:d4 m1 rs with
 | none=>rw [e] at kk; exact kk.elim
 | some q =>
  obtain ⟨as,ks⟩:=q
  rw [e] at kk
  obtain ⟨nd,hsp⟩:=kk
  obtain ⟨β,ra,pa⟩:=dr Rl1 rr e
  refine ⟨as,β,_,hn _ _ hsp,dH Rl1.nd nd pa,by rw [List.append_nil]; exact ra,hsp,fun r outs v H' kk2 O rr2 F=>?_⟩
  obtain ⟨Rl2,F2⟩:=oo Rl1 nd pa O F
  exact fin _ _ v H' kk2 n1 Rl2 ((pq pa rr2).base Rl1 F1) (F1.trans F2)
theorem zh {E:XK} (F:FnOk X.prog X.w X.K X.mg X.base CX k f fd ps (spOf X.kd n sp)) (hr:Room k X.A) (hg:Gl X x) (hm:X.mg x = some (.ref f)) (hk:PySem.W.keepIn X.K (.ref f) = true) (hb:Binds X.K fd ps []) (hx:gG CX X E) (hn:∀ as Kc,sp as Kc→as.length = n)
  (ha:MA X (a :: es) ws) (hdb:(x == ("__debug__" : Str)) = false:=by decide) (he:starEach (a :: es) X.env = (false,eval a X.env) :: starEach es X.env:=by first | exact aD rfl | rfl) (hpl:(backTo pos (starEach es X.env)).any (·.1) = false:=by rfl) :
  ME X (.Call (.Name x p) (a :: es) [] pos) (va sp ws):=(CC (E:=E) F hr hg hm hk hb .nil hx ha hdb he hpl).wk fun _ _ _ h=>B5 h hn
end
structure fM where
 nx:MSt→Prop
 rt:R→MSt→Prop
 bk:MSt→Prop:=fun _=>False
 ct:MSt→Prop:=fun _=>False
abbrev WS:=fM→MSt→Prop
theorem RelR.ext {K:Kd} {np:Nat} {α α1 α2:Al} {H H1 H2:Hp} {r:R} {v:V} (x:Ext np α H α1 H1) (h:RelR K α2 H1 H2 r v):RelR K α2 H H2 r v:=by
 cases r with
 | imm d=>exact h
 | obj k=>exact h
 | «at» k p=>exact h
 | new ds =>
  obtain ⟨a,xs,e,n,q,g⟩:=h
  exact ⟨a,xs,e,x.nil n,q,g⟩
 | newT t =>
  obtain ⟨τ,a,e,e1,nd,n,g⟩:=h
  exact ⟨τ,a,e,e1,nd,fun b hb=>x.nil (n b hb),g⟩
structure EndsOk (K:Kx) (np:Nat) (α : Al) (H:Hp) (De:fM) (D:Ends):Prop where
 nx:∀ α' m' σ' H',De.nx m'→m'.np = np→Rel K α' m' σ' H'→Ext np α H α' H'→D.nx σ' H'
 rt:∀ r α' m' σ' v H',De.rt r m'→m'.np = np→Rel K α' m' σ' H'→RelR K α' H H' r v→Ext np α H α' H'→D.rt v H'
 bk:∀ α' m' σ' H',De.bk m'→m'.np = np→Rel K α' m' σ' H'→Ext np α H α' H'→D.bk σ' H'
 ct:∀ α' m' σ' H',De.ct m'→m'.np = np→Rel K α' m' σ' H'→Ext np α H α' H'→D.ct σ' H'
theorem EndsOk.ext {K:Kx} {np:Nat} {α α1:Al} {H H1:Hp} {De:fM} {D:Ends} (h:EndsOk K np α H De D) (x:Ext np α H α1 H1):EndsOk K np α1 H1 De D where
 nx:=fun α' m' σ' H' k n R y=>h.nx α' m' σ' H' k n R (x.trans y)
 rt:=fun r α' m' σ' v H' k n R rr y=>h.rt r α' m' σ' v H' k n R (rr.ext x) (x.trans y)
 bk:=fun α' m' σ' H' k n R y=>h.bk α' m' σ' H' k n R (x.trans y)
 ct:=fun α' m' σ' H' k n R y=>h.ct α' m' σ' H' k n R (x.trans y)
def tMS (K:Kx) (w:WS):TS:=fun D σ H=>∃ α m De,Rel K α m σ H∧w De m∧EndsOk K m.np α H De D
abbrev MS (X:Cx) (st:Stmt) (w:WS):Prop:=PS X st (tMS X.kx w)
abbrev MSs (X:Cx) (st:List Stmt) (w:WS):Prop:=PSs X st (tMS X.kx w)
section
variable {X:Cx} {a b c e:Expr} {es:List Expr} {wa wb wc we:WE} {pos:Pos} {st:Stmt} {rest:List Stmt} {w u:WS}
def xO:WS:=fun D m=>D.nx m
def wSeq (w u:WS):WS:=fun D m=>w { D with nx:=fun m'=>u D m' } m
theorem uk:MSs X [] xO:=(Ae (X:=X)).wk fun D σ H ⟨α,m,De,Rl,hw,k⟩=>k.nx α m σ H hw rfl Rl (.of Rl (Frm.refl _ _))
theorem v8 (h1:MS X st w) (h2:MSs X rest u):MSs X (st :: rest) (wSeq w u):=(pi h1 h2).wk fun D σ H ⟨α,m,De,Rl,hw,k⟩ =>
 ⟨α,m,_,Rl,hw,⟨fun α' m' σ' H' q n R y=>⟨α',m',De,R,q,by rw [n]; exact k.ext y⟩,k.rt,k.bk,k.ct⟩⟩
theorem Cw (h1:MS X st w):MSs X [st] w:=(Bo h1).wk fun D σ H h=>h
end
section
variable {X:Cx} {a b c e:Expr} {es:List Expr} {wa wb wc we:WE} {ws:WA} {wt:WT} {pos:Pos} {st:Stmt} {rest body body2:List Stmt} {w u:WS}
def wRet (we:WE):WS:=fun D m=>we m fun r m'=>D.rt r m'
theorem Ik (he:ME X e we):MS X (.Return (some e) pos) (wRet we):=(IJ he).wk fun D σ H ⟨α,m,De,Rl,hw,k⟩ =>
 ⟨α,m,_,Rl,hw,fun r m' v H' q n Rl' rr F=>k.rt r α m' σ v H' q n Rl' rr (.of Rl' F)⟩
def CG (we:WE):WS:=fun D m=>we m fun _ m'=>D.nx m'
theorem Cq (he:ME X e we) (hs:swapsWith e none pos.line X.env = pure false:=by rfl):MS X (.Expr e pos) (CG we):=(zJ he hs).wk fun D σ H ⟨α,m,De,Rl,hw,k⟩ =>
 ⟨α,m,_,Rl,hw,fun r m' v H' q n Rl' rr F=>k.nx α m' σ H' q n Rl' (.of Rl' F)⟩
def wIfS (t:WT) (w u:WS):WS:=fun D m=>t m fun c m'=>if c = true then w D m' else u D m'
theorem KF {t:Expr} (ht:MT X t wt) (h1:MSs X body w) (h2:MSs X body2 u):MS X (.If t body body2 pos) (wIfS wt w u):=(I9 ht h1 h2).wk fun D σ H ⟨α,m,De,Rl,hw,k⟩=>by
 refine ⟨α,m,_,Rl,hw,fun bb m' H' q n Rl' F=>?_⟩
 have k':EndsOk X.kx m'.np α H' De D:=by rw [n]; exact k.ext (.of Rl' F)
 cases bb with
 | true=>rw [if_pos rfl] at q; exact iteT ⟨α,m',De,Rl',q,k'⟩
 | false=>rw [if_neg Bool.false_ne_true] at q; exact iteF ⟨α,m',De,Rl',q,k'⟩
def yX:WS:=fun _ _=>False
theorem vz:MS X st yX:=(vB (X:=X)).wk fun D σ H ⟨α,m,De,Rl,hw,k⟩=>hw
def MSt.setV (m:MSt) (i:Nat) (r:R):MSt:={ m with vs:=m.vs.set i (some r) }
def RenR (ρ : List Nat) (o:Option (Option R)):R→Prop
 | .imm d=>o = some (some (.imm d))
 | .obj k=>∃ j,ρ[k]? = some j∧o = some (some (.obj j))
 | .at k p=>∃ j,ρ[k]? = some j∧o = some (some (.at j p))
 | .new _=>False
 | .newT _=>False
structure Ren (ρ : List Nat) (m m2:MSt):Prop where
 nd : ρ.Nodup
 lt:∀ k∈ρ,k < m.os.length
 pre : ρ.take m.np = List.range m.np
 npl:m.np≤ρ.length
 os:m2.os = ρ.map fun k=>m.os.getD k []
 np:m2.np = m.np
 vl:m2.vs.length = m.vs.length
 vs:∀ (j:Nat) (r:R),m2.vs[j]? = some (some r)→RenR ρ m.vs[j]? r
def upR (D:MSt→Prop) (m:MSt):Prop:=D m∨∃ ρ m2,Ren ρ m m2∧D m2
def kr (i:Nat) (D:MSt→Prop) (m:MSt):R→Prop
 | .imm d=>upR D (m.setV i (.imm d))
 | .obj k=>upR D (m.setV i (.obj k))
 | .at k p=>upR D (m.setV i (.at k p))
 | .new ds=>upR D { vs:=m.vs.set i (some (.obj m.os.length)),os:=m.os++[ds],np:=m.np } ∨
   ∃ k,m.vs[i]? = some (some (.obj k))∧m.np≤k∧(∀ j:Nat,j≠i→m.vs[j]?≠some (some (.obj k)))∧D { m with os:=m.os.set k ds }
 | .newT t=>upR D { vs:=m.vs.set i (some (.at m.os.length [])),os:=m.os++[[t]],np:=m.np }
theorem jn {α : Al} {n:Nat} (hl : α.length = n):∀ {ρ : List Nat},(∀ k∈ρ,k < n)→Paired (fun (k:Nat) (ao:Ao)=>α[k]? = some ao) ρ (ρ.map fun k=>α.getD k (.L 0))
 | [],_=>.nil
 | k :: ρ,h=>.cons (by
   have hk:k < α.length:=by rw [hl]; exact h k List.mem_cons_self
   show α[k]? = some (α.getD k (.L 0))
   rw [List.getD_eq_getElem?_getD,List.getElem?_eq_getElem hk]; rfl) (jn hl fun j hj=>h j (List.mem_cons_of_mem _ hj))
theorem Am {K:Kx} {α : Al} {m m2:MSt} {σ : St} {H:Hp} {ρ : List Nat} (Rl:Rel K α m σ H) (N:Ren ρ m m2):∃ α2,Rel K α2 m2 σ H∧Ext m.np α H α2 H:=by
 have pr:=jn Rl.len N.lt
 have get:∀ (k:Nat) (ao:Ao),(ρ.map fun k=>α.getD k (.L 0))[k]? = some ao→∃ j:Nat,ρ[k]? = some j∧α[j]? = some ao:=fun k ao z=>by
  obtain ⟨j,h1,h2⟩:=Paired.get2 pr z
  exact ⟨j,h1,h2⟩
 have fwd:∀ (k j:Nat) (ao:Ao),ρ[k]? = some j→α[j]? = some ao→(ρ.map fun k=>α.getD k (.L 0))[k]? = some ao:=fun k j ao z1 z2=>by
  obtain ⟨ao',z3,z4⟩:=Paired.get' pr z1
  rw [z2] at z4; cases z4
  exact z3
 have pre':(ρ.map fun k=>α.getD k (.L 0)).take m.np = α.take m.np:=by
  apply List.ext_getElem?
  intro l
  rw [List.getElem?_take,List.getElem?_take]
  by_cases hl:l < m.np
  ·rw [if_pos hl,if_pos hl]
   have : ρ[l]? = some l:=by
    have e:=congrArg (·[l]?) N.pre
    simp only [List.getElem?_take,if_pos hl] at e
    rw [e,List.getElem?_range hl]
   have hl2:l < α.length:=Nat.lt_of_lt_of_le hl Rl.npl
   rw [fwd l l α[l] this (List.getElem?_eq_getElem hl2),List.getElem?_eq_getElem hl2]
  ·rw [if_neg hl,if_neg hl]
 have ext:Ext m.np α H (ρ.map fun k=>α.getD k (.L 0)) H:=⟨pre',Frm.refl _ _,fun a ha=>by
  obtain ⟨k,ao,e1,hm⟩:=ii ha
  obtain ⟨j,_,e2⟩:=get k ao e1
  exact .inl (jJ e2 hm),fun a ha=>by
  obtain ⟨o,q,_⟩:=Rl.mem ha
  exact ⟨_,q⟩⟩
 refine ⟨ρ.map fun k=>α.getD k (.L 0),⟨dH Rl.nd N.nd pr,?_,fun k ao ds z1 z2=>?_,?_,fun j r z=>?_,?_,by rw [N.np]; exact Rl.ebl,Rl.ebx.trans (ext.less Rl.ebl)⟩,ext⟩
 ·rw [N.os,List.length_map,List.length_map]
 ·obtain ⟨j,q,qa⟩:=get k ao z1
  rw [N.os,List.getElem?_map,q] at z2
  have hj:j < m.os.length:=N.lt j (List.mem_of_getElem? q)
  have z2':m.os.getD j [] = ds:=Option.some.inj z2
  refine Rl.own j ao ds qa ?_
  rw [←z2',List.getD_eq_getElem?_getD,List.getElem?_eq_getElem hj]; rfl
 ·rw [N.vl]; exact Rl.vlen
 ·have h:=N.vs j r z
  cases r with
  | imm d=>exact Rl.var j (.imm d) h
  | new _=>exact h.elim
  | newT _=>exact h.elim
  | obj k =>
   obtain ⟨j',q,h⟩:=h
   obtain ⟨v,ev,a,ea,e⟩:=Rl.var j (.obj j') h
   exact ⟨v,ev,a,fwd k j' _ q ea,e⟩
  | «at» k p =>
   obtain ⟨j',q,h⟩:=h
   obtain ⟨v,ev,τ,a,ea,el,e⟩:=Rl.var j (.at j' p) h
   exact ⟨v,ev,τ,a,fwd k j' _ q ea,el,e⟩
 ·rw [N.np,List.length_map]; exact N.npl
def wSet (i:Nat) (we:WE):WS:=fun D m=>we m fun r m'=>kr i D.nx m' r
theorem bQ {K:Kx} {α : Al} {m:MSt} {σ : St} {H:Hp} {i:Nat} {r:R} {v:V} (Rl:Rel K α m σ H) (h:RelS K α H r v):Rel K α (m.setV i r) (σ.set i (some v)) H:=by
 refine ⟨Rl.nd,Rl.len,Rl.own,?_,fun j r' e=>?_,Rl.npl,Rl.ebl,Rl.ebx⟩
 ·show (σ.set i (some v)).length = (m.vs.set i (some r)).length
  rw [List.length_set,List.length_set]; exact Rl.vlen
 ·have e':(m.vs.set i (some r))[j]? = some (some r'):=e
  by_cases hj:i = j
  ·subst hj
   by_cases hi:i < m.vs.length
   ·rw [List.getElem?_set_self hi] at e'
    cases e'
    exact ⟨v,List.getElem?_set_self (by rw [Rl.vlen]; exact hi),h⟩
   ·rw [List.getElem?_eq_none (by rw [List.length_set]; omega)] at e'; cases e'
  ·rw [List.getElem?_set_ne hj] at e' ⊢
   exact Rl.var j r' e'
theorem kF {K:Kx} {α : Al} {m:MSt} {σ : St} {H0 H:Hp} {ao:Ao} {ds:List PyData} (Rl:Rel K α m σ H) (R0:∃ m0 σ0,Rel K α m0 σ0 H0) (F:Frm α H0 H) (nd:ao.ads.Nodup) (hn:∀ b∈ao.ads,H0 b = none) (g:OwnAt K H ao ds) :
  Rel K (α++[ao]) { m with os:=m.os++[ds] } σ H∧∀ np,np≤α.length→Ext np α H0 (α++[ao]) H:=by
 obtain ⟨m0,σ0,Rl0⟩:=R0
 have pα : ∀ b∈ao.ads,b∉ads α:=fun b hb=>Rl0.out (hn b hb)
 have one:ads [ao] = ao.ads:=by simp [ads]
 have ext:∀ np,np≤α.length→Ext np α H0 (α++[ao]) H:=fun np hnp=>⟨by rw [List.take_append_of_le_length hnp],F,fun a ha=>by
  rw [fH,one] at ha
  rcases List.mem_append.mp ha with z | z
  ·exact .inl z
  ·exact .inr (hn a z),fun a ha=>by
  obtain ⟨o,q,_⟩:=Rl.mem ha
  exact ⟨_,q⟩⟩
 refine ⟨⟨?_,by simp [Rl.len],fun k a es z1 z2=>?_,Rl.vlen,fun j r' z=>?_,by have:=Rl.npl; show m.np≤(α++[ao]).length; rw [List.length_append]; omega,Rl.ebl,Rl0.ebx.trans (ext _ ?_)⟩,ext⟩
 ·rw [fH,one]
  exact List.nodup_append.mpr ⟨Rl.nd,nd,fun x hx y hy e=>pα y hy (e▸hx)⟩
 ·have z2':(m.os++[ds])[k]? = some es:=z2
  by_cases hk:k < α.length
  ·rw [List.getElem?_append_left hk] at z1
   rw [List.getElem?_append_left (by rw [←Rl.len]; exact hk)] at z2'
   exact Rl.own k a es z1 z2'
  ·rw [List.getElem?_append_right (by omega)] at z1
   rw [List.getElem?_append_right (by rw [←Rl.len]; omega)] at z2'
   have hk0:k - α.length = 0:=by
    have:=(List.getElem?_eq_some_iff.mp z1).1
    simp at this; omega
   rw [hk0] at z1
   rw [←Rl.len,hk0] at z2'
   simp at z1 z2'
   subst z1; subst z2'
   exact g
 ·obtain ⟨v,ev,rv⟩:=Rl.var j r' z
  refine ⟨v,ev,?_⟩
  cases r' with
  | imm d=>exact rv
  | new _=>exact rv
  | newT _=>exact rv
  | obj k =>
   obtain ⟨a,ea,e⟩:=rv
   exact ⟨a,by rw [List.getElem?_append_left (List.getElem?_eq_some_iff.mp ea).1]; exact ea,e⟩
  | «at» k p =>
   obtain ⟨τ,a,ea,e⟩:=rv
   exact ⟨τ,a,by rw [List.getElem?_append_left (List.getElem?_eq_some_iff.mp ea).1]; exact ea,e⟩
 ·exact Nat.le_trans Rl.ebl Rl.npl
theorem qH {K:Kx} {α : Al} {m:MSt} {σ : St} {H0 H:Hp} {i:Nat} {r:R} {v:V} {P:MSt→Prop} {Q:St→Hp→Prop} {np:Nat} (Rl:Rel K α m σ H) (n:m.np = np) (F:Frm α H0 H) (h:RelR K α H0 H r v) (q:kr i P m r)
  (k:∀ α' m' σ' H',P m'→m'.np = np→Rel K α' m' σ' H'→Ext np α H0 α' H'→Q σ' H') (R0:∃ m0 σ0,Rel K α m0 σ0 H0):Q (σ.set i (some v)) H:=by
 have up:∀ α' m' σ' H',upR P m'→m'.np = np→Rel K α' m' σ' H'→Ext np α H0 α' H'→Q σ' H':=fun α' m' σ' H' q n R x=>by
  rcases q with q | ⟨ρ,m2,N,q⟩
  ·exact k α' m' σ' H' q n R x
  ·obtain ⟨α2,R2,x2⟩:=Am R N
   rw [n] at x2
   exact k α2 m2 σ' H' q (N.np.trans n) R2 (x.trans x2)
 have npα : np≤α.length:=by rw [←n]; exact Rl.npl
 cases r with
 | imm d=>exact up α _ _ H q n (bQ Rl (r:=.imm d) h) (.of (bQ (i:=i) Rl (r:=.imm d) h) F)
 | obj j=>exact up α _ _ H q n (bQ Rl (r:=.obj j) h) (.of (bQ (i:=i) Rl (r:=.obj j) h) F)
 | «at» j p=>exact up α _ _ H q n (bQ Rl (r:=.at j p) h) (.of (bQ (i:=i) Rl (r:=.at j p) h) F)
 | newT t =>
  obtain ⟨τ,p,rfl,el,nd,hn,g⟩:=h
  obtain ⟨base,ext⟩:=kF Rl R0 F (ao:=.T τ) nd hn g
  exact up (α++[.T τ]) _ _ H q n (bQ base (r:=.at m.os.length []) ⟨τ,p,by rw [List.getElem?_append_right (by rw [Rl.len]; exact Nat.le_refl _),←Rl.len]; simp,el,rfl⟩) (ext np npα)
 | new ds =>
  obtain ⟨p,xs,rfl,hn,hp,g⟩:=h
  have R0':=R0
  obtain ⟨m0,σ0,Rl0⟩:=R0'
  have pα : p∉ads α:=Rl0.out hn
  rcases q with q | ⟨j,e1,e2,e3,q⟩
  ·
   obtain ⟨base,ext⟩:=kF Rl R0 F (ao:=.L p) (by simp [Ao.ads]) (fun b hb=>by cases List.mem_singleton.mp hb; exact hn) ⟨xs,hp,g⟩
   exact up (α++[.L p]) _ _ H q n (bQ base (r:=.obj m.os.length) ⟨p,by rw [List.getElem?_append_right (by rw [Rl.len]; exact Nat.le_refl _),←Rl.len]; simp,rfl⟩) (ext np npα)
  ·
   obtain ⟨aj,eaj⟩ : ∃ aj,α[j]? = some (.L aj):=by
    obtain ⟨v,_,a,ea,_⟩:=Rl.var i _ e1
    exact ⟨a,ea⟩
   have hj:j < α.length:=(List.getElem?_eq_some_iff.mp eaj).1
   have hi:i < m.vs.length:=(List.getElem?_eq_some_iff.mp e1).1
   have ndS:(ads (α.set j (.L p))).Nodup:=by
    have z:=(dI α).mp Rl.nd
    rw [dI]
    refine ⟨fun ao ha=>?_,List.pairwise_iff_getElem.mpr fun i1 i2 h1 h2 hlt a ha b hb e=>?_⟩
    ·rcases List.mem_or_eq_of_mem_set ha with y | y
     ·exact z.1 ao y
     ·subst y; simp [Ao.ads]
    ·subst e
     rw [List.length_set] at h1 h2
     have mem:∀ (l:Nat) (hl:l < α.length),a∈(α[l]).ads→a∈ads α:=fun l hl h=>jJ (List.getElem?_eq_getElem hl) h
     by_cases c1:j = i1
     ·subst c1
      rw [List.getElem_set_self] at ha
      rw [List.getElem_set_ne (by omega)] at hb
      cases List.mem_singleton.mp ha
      exact pα (mem i2 h2 hb)
     ·rw [List.getElem_set_ne c1] at ha
      by_cases c2:j = i2
      ·subst c2
       rw [List.getElem_set_self] at hb
       cases List.mem_singleton.mp hb
       exact pα (mem i1 h1 ha)
      ·rw [List.getElem_set_ne c2] at hb
       exact fe Rl.nd (List.getElem?_eq_getElem h1) (List.getElem?_eq_getElem h2) (Nat.ne_of_lt hlt) ha hb
   have ext:Ext np α H0 (α.set j (.L p)) H:=by
    refine ⟨?_,F,fun a ha=>?_,fun a ha=>?_⟩
    ·apply List.ext_getElem?
     intro l
     rw [List.getElem?_take,List.getElem?_take]
     by_cases hl:l < np
     ·rw [if_pos hl,if_pos hl,List.getElem?_set_ne (by omega)]
     ·rw [if_neg hl,if_neg hl]
    ·obtain ⟨l,ao,el,hm⟩:=ii ha
     by_cases c1:j = l
     ·subst c1
      rw [List.getElem?_set_self hj] at el
      cases el
      cases List.mem_singleton.mp hm
      exact .inr hn
     ·rw [List.getElem?_set_ne c1] at el
      exact .inl (jJ el hm)
    ·obtain ⟨o,q,_⟩:=Rl.mem ha
     exact ⟨_,q⟩
   have Rl':Rel K (α.set j (.L p)) { m with os:=m.os.set j ds } (σ.set i (some (.ref p))) H:=by
    refine ⟨ndS,by simp [Rl.len],fun k a es z1 z2=>?_,by rw [List.length_set]; exact Rl.vlen,fun l r' z=>?_,by rw [List.length_set]; exact Rl.npl,Rl.ebl,Rl0.ebx.trans (ext.less (by have:=Rl.ebl; omega))⟩
    ·have z2':(m.os.set j ds)[k]? = some es:=z2
     by_cases c1:j = k
     ·subst c1
      rw [List.getElem?_set_self hj] at z1
      rw [List.getElem?_set_self (by rw [←Rl.len]; exact hj)] at z2'
      cases z1; cases z2'
      exact ⟨xs,hp,g⟩
     ·rw [List.getElem?_set_ne c1] at z1 z2'
      exact Rl.own k a es z1 z2'
    ·have z':m.vs[l]? = some (some r'):=z
     by_cases hl:i = l
     ·subst hl
      rw [e1] at z'
      cases z'
      exact ⟨.ref p,List.getElem?_set_self (by rw [Rl.vlen]; exact hi),p,List.getElem?_set_self hj,rfl⟩
     ·obtain ⟨v,ev,rv⟩:=Rl.var l r' z'
      refine ⟨v,by rw [List.getElem?_set_ne hl]; exact ev,?_⟩
      cases r' with
      | imm d=>exact rv
      | new _=>exact rv
      | newT _=>exact rv
      | obj k =>
       obtain ⟨a,ea,e⟩:=rv
       refine ⟨a,?_,e⟩
       rw [List.getElem?_set_ne]
       ·exact ea
       ·rintro rfl
        exact e3 l (Ne.symm hl) z'
      | «at» k p' =>
       obtain ⟨τ,a,ea,e⟩:=rv
       refine ⟨τ,a,?_,e⟩
       rw [List.getElem?_set_ne]
       ·exact ea
       ·rintro rfl
        rw [eaj] at ea; cases ea
   exact k (α.set j (.L p)) _ _ H q n Rl' ext
theorem Dl {i:Nat} {x:Str} {pos':Pos} (hN:X.N.Nodup) (hi:X.N[i]? = some x) (hx:Loc X.env.scope x) (he:ME X e we) (hs:swapsWith e (some (.Name x pos')) pos.line X.env = pure false:=by rfl) (hf:X.fn x = true∨X.env.scope.names.lookup x = some .local:=by first | exact .inl rfl | exact .inr rfl | assumption) :
  MS X (.Assign [.Name x pos'] e pos) (wSet i we):=(DB hN hi hx he hs hf).wk fun D σ H ⟨α,m,De,Rl,hw,k⟩ =>
 ⟨α,m,_,Rl,hw,fun r m' v H' q n Rl' rr F=>qH (Q:=D.nx) Rl' n F rr q k.nx ⟨m,σ,Rl⟩⟩
abbrev WG:=PyData→MSt→(MSt→Prop)→Prop
abbrev WGs:=List PyData→MSt→(MSt→Prop)→Prop
def tMG (K:Kx) (g:WG):TG:=fun v σ H Q=>∃ α m d Kc,Rel K α m σ H∧Den K H d v∧g d m Kc∧∀ m' σ',Kc m'→m'.np = m.np→Rel K α m' σ' H→Q σ' H
def tMGs (K:Kx) (g:WGs):TGs:=fun vs σ H Q=>∃ α m ds Kc,Rel K α m σ H∧DenAll K H ds vs∧g ds m Kc∧∀ m' σ',Kc m'→m'.np = m.np→Rel K α m' σ' H→Q σ' H
theorem PG.wk {X:Cx} {e:Expr} {t t':TG} (h:PG X e t) (k:∀ v σ H Q,t' v σ H Q→t v σ H Q):PG X e t':=fun pins s σ H v u Q I r q=>h pins s σ H v u Q I r (k _ _ _ _ q)
theorem PGs.wk {X:Cx} {e:List Expr} {t t':TGs} (h:PGs X e t) (k:∀ v σ H Q,t' v σ H Q→t v σ H Q):PGs X e t':=fun pins s σ H v u Q I r q=>h pins s σ H v u Q I r (k _ _ _ _ q)
abbrev MG (X:Cx) (e:Expr) (g:WG):Prop:=PG X e (tMG X.kx g)
abbrev MGs (X:Cx) (es:List Expr) (g:WGs):Prop:=PGs X es (tMGs X.kx g)
def gM (i:Nat):WG:=fun d m K=>K (m.setV i (.imm d))
def zn:WGs:=fun ds m K=>ds = []∧K m
def tU (g:WG) (gs:WGs):WGs:=fun ds m K=>match ds with | d :: r=>g d m fun m'=>gs r m' K | []=>False
def Cr (n:Nat) (gs:WGs):WG:=fun d m K=>match d with | .tuple ds=>ds.length = n∧gs ds m K | _=>False
theorem Bj {i:Nat} {x:Str} (hN:X.N.Nodup) (hi:X.N[i]? = some x) (hx:Loc X.env.scope x) (hf:X.fn x = true∨X.env.scope.names.lookup x = some .local:=by first | exact .inl rfl | exact .inr rfl | assumption):MG X (.Name x pos) (gM i):=(BZ hN hi hx hf).wk fun v σ H Q ⟨α,m,d,Kc,Rl,hd,hw,fin⟩ =>
 fin _ _ hw rfl (bQ Rl hd)
theorem CF:MGs X [] zn:=(CA (X:=X)).wk fun v σ H Q ⟨α,m,d,Kc,Rl,hd,hw,fin⟩=>by
 obtain ⟨rfl,hw⟩:=hw
 simp only [DenAll] at hd
 exact ⟨hd,fin m σ hw rfl Rl⟩
theorem vj {e:Expr} {es:List Expr} {g:WG} {gs:WGs} (h1:MG X e g) (h2:MGs X es gs)
  (hs:(assignEach (e :: es) X.env).map (·.2) = assign e X.env :: (assignEach es X.env).map (·.2):=by rfl):MGs X (e :: es) (tU g gs):=(wx h1 h2 hs).wk fun v σ H Q ⟨α,m,ds,Kc,Rl,hd,hw,fin⟩=>by
 cases ds with
 | nil=>exact hw.elim
 | cons d r =>
  simp only [DenAll] at hd
  obtain ⟨x,vr,rfl,h3,h4⟩:=hd
  exact ⟨x,vr,rfl,α,m,d,_,Rl,h3,hw,fun m' σ' k n Rl'=>⟨α,m',r,_,Rl',h4,k,fun m2 σ2 k2 n2 Rl2=>fin m2 σ2 k2 (n2.trans n) Rl2⟩⟩
theorem Fy {es:List Expr} {k:Nat} {gs:WGs} {n:Nat} (h:MGs X es gs) (hc:X.calm = true:=by rfl)
  (hn:(assignEach es X.env).length = n:=by rfl) (hst:(assignEach es X.env).findIdx? (·.1) = none:=by rfl):MG X (.Tuple es k pos) (Cr n gs):=(D3 hc h hn hst).wk fun v σ H Q ⟨α,m,d,Kc,Rl,hd,hw,fin⟩=>by
 cases d with
 | tuple ds =>
  simp only [Den] at hd
  obtain ⟨a,xs,e,f,g⟩:=hd
  exact ⟨a,xs,e,f,g.length.symm.trans hw.1,α,m,ds,Kc,Rl,g,hw.2,fin⟩
 | none=>exact hw.elim
 | bool _=>exact hw.elim
 | int _=>exact hw.elim
 | str _=>exact hw.elim
 | list _=>exact hw.elim
 | dict _=>exact hw.elim
def cf (P:PyData→Prop):R→Prop
 | .imm d=>P d
 | _=>False
theorem cG {K:Kx} {α : Al} {Hb H:Hp} {r:R} {v:V} {P:PyData→Prop} (rr:RelR K α Hb H r v) (h:cf P r):∃ d,r = .imm d∧Den K H d v∧P d:=by
 cases r with
 | imm d=>exact ⟨d,rfl,rr,h⟩
 | obj _=>exact h.elim
 | new _=>exact h.elim
 | «at» _ _=>exact h.elim
 | newT _=>exact h.elim
def wAsg (we:WE) (g:WG):WS:=fun D m=>we m fun r m'=>cf (fun d=>g d m' D.nx) r
theorem FQ {tg:Expr} {g:WG} (he:ME X e we) (hg:MG X tg g) (hs:swapsWithSole [tg] e pos.line X.env = pure false:=by rfl) (hw:swappedStores [tg] e X.env = pure none:=by rfl)
  (h1:(assignEach [tg] X.env).map (·.2) = [assign tg X.env]:=by rfl):MS X (.Assign [tg] e pos) (wAsg we g):=(yW he hg hs hw h1).wk fun D σ H ⟨α,m,De,Rl,hw,k⟩=>by
 refine ⟨α,m,_,Rl,hw,fun r m' v H' q n Rl' rr F=>?_⟩
 obtain ⟨d,er,hd,q⟩:=cG rr q
 exact ⟨α,m',d,_,Rl',hd,q,fun m2 σ2 q2 n2 Rl2=>k.nx α m2 σ2 H' q2 (n2.trans n) Rl2 (.of Rl2 F)⟩
def wPar (i j:Nat) (ws:WA):WS:=fun D m=>ws m fun rs m'=>match rs with | [.imm d1,.imm d2]=>D.nx ((m'.setV i (.imm d1)).setV j (.imm d2)) | _=>False
theorem C9 {i j:Nat} {x y:Str} {px py pt:Pos} {kt k2 pt2} (hN:X.N.Nodup) (hi:X.N[i]? = some x) (hj:X.N[j]? = some y) (hij:i≠j)
  (hx:X.env.scope.names.lookup x = some .local) (hy:X.env.scope.names.lookup y = some .local) (ha:MA X [a,b] ws)
  (hw:swappedStores [.Tuple [.Name x px,.Name y py] kt pt] (.Tuple [a,b] k2 pt2) X.env = pure (some [x,y])) (hc:X.calm = true:=by rfl)
  (hs:swapsWithSole [.Tuple [.Name x px,.Name y py] kt pt] (.Tuple [a,b] k2 pt2) pos.line X.env = pure false:=by rfl) :
  MS X (.Assign [.Tuple [.Name x px,.Name y py] kt pt] (.Tuple [a,b] k2 pt2) pos) (wPar i j ws):=(Gg hc hN hi hj hij hx hy ha hw hs).wk fun D σ H ⟨α,m,De,Rl,hw,k⟩=>by
 refine ⟨α,m,_,Rl,hw,fun rs m' vs H' q n Rl' rr F=>?_⟩
 match rs,rr,q with
 | [.imm d1,.imm d2],.cons h1 (.cons h2 .nil),q=>exact ⟨_,_,rfl,k.nx α _ _ H' q n (bQ (bQ Rl' (r:=.imm d1) h1) (r:=.imm d2) h2) (.of Rl' F)⟩
end
structure Src where
 ds:List PyData
 own:Option Nat
structure Wks (K:Kd) (J:It) (ds:List PyData) (C:Hp→Prop):Prop where
 stop:∀ H,C H→J.stop ds.length H
 go:∀ i H,i < ds.length→C H→J.go i H
 yld:∀ i H x H',i < ds.length→C H→J.yld i H x H'→(∀ b o,H b = some o→H' b = some o)∧∃ d,ds[i]? = some d∧Den K H' d x
def mI (K:Kd) (α : Al) (H:Hp) (s:Src) (J:It):Prop :=
 match s.own with
 | none=>∃ C:Hp→Prop,Wks K J s.ds C∧C H∧∀ H1 H2,C H1→Pers H1 H2→C H2
 | some k=>∃ a,α[k]? = some (.L a)∧Wks K J s.ds fun H=>∃ xs,H a = some (.lst xs)∧DenAll K H s.ds xs
abbrev WI:=MSt→(Src→MSt→Prop)→Prop
def tMI (K:Kx) (w:WI):TI:=fun σ H Rq=>∃ α m Kc,Rel K α m σ H∧w m Kc∧∀ s m' J H',Kc s m'→m'.np = m.np→Rel K α m' σ H'→Frm α H H'→mI K α H' s J→Rq J H'
theorem PI.wk {X:Cx} {tg e:Expr} {t t':TI} (h:PI X tg e t) (k:∀ σ H Q,t' σ H Q→t σ H Q):PI X tg e t':=fun pins s σ H Q I q=>h pins s σ H Q I (k _ _ _ q)
abbrev MI (X:Cx) (tg e:Expr) (w:WI):Prop:=PI X tg e (tMI X.kx w)
section
variable {X:Cx} {tg a b c e iter:Expr} {es:List Expr} {wa wb wc we:WE} {ws:WA} {wt:WT} {pos:Pos} {st:Stmt} {rest body body2:List Stmt} {w u:WS}
def iSeq (K:PySem.W.Frag) (tl:TE):TI:=fun σ H Rq=>tl σ H fun x H1=>∃ a,x = .ref a∧(((∃ xs,SqL K H1 a xs)∧Rq (Itl K a) H1)∨((∃ xs,SqT K H1 a xs)∧Rq (Itt K a) H1))
theorem GJ {l:Expr} {tl:TE} (hl:PE X l tl):PI X tg l (iSeq X.K tl):=by
 intro pins s σ H Rq I h
 refine thn (hl pins s σ H _ I h) fun v s1 ⟨x,H1,I1,r1,q1⟩=>?_
 obtain ⟨a,e,q⟩:=q1
 subst e
 cases r1
 rcases q with ⟨⟨xs,hq⟩,q⟩ | ⟨⟨xs,hq⟩,q⟩
 ·obtain ⟨its,rv,p,hz⟩:=I1.list hq
  refine wpAny_pyIter_list p.isList ?_
  refine ⟨s1.heap.objs.size,[s1.heap.objs.size],_,_,H1,rfl,I1.kept (t':=s1.toks) fun b o e=>Heap.get?_push_of_some _ e,qQ a _,⟨_,Heap.get?_push_size _ rfl,rfl,rfl⟩,fun b hb=>?_,q⟩
  have e:b = s1.heap.objs.size:=by simpa using hb
  subst e
  exact I1.fpOk (Nat.le_refl _) (I1.hok.fresh (Nat.le_refl _))
 ·obtain ⟨its,rv,p,hz⟩:=I1.tuple hq
  refine wpAny_pyIter_tuple (show s1.heap.IsTuple a its.toArray from p) ?_
  refine ⟨s1.heap.objs.size,[s1.heap.objs.size],_,_,H1,rfl,I1.kept (t':=s1.toks) fun b o e=>Heap.get?_push_of_some _ e,p7 a _,⟨_,Heap.get?_push_size _ rfl,rfl,rfl⟩,fun b hb=>?_,q⟩
  have e:b = s1.heap.objs.size:=by simpa using hb
  subst e
  exact I1.fpOk (Nat.le_refl _) (I1.hok.fresh (Nat.le_refl _))
def srcR (m:MSt) (K:Src→MSt→Prop):R→Prop
 | .imm (.list ds)=>K ⟨ds,none⟩ m
 | .imm (.tuple ds)=>K ⟨ds,none⟩ m
 | .obj k=>∃ ds,m.os[k]? = some ds∧K ⟨ds,some k⟩ m
 | _=>False
def Bz (we:WE):WI:=fun m K=>we m fun r m'=>srcR m' K r
theorem wks_list {K:Kd} {a:Addr} {ds:List PyData}:Wks K (Itl K a) ds fun H=>∃ xs,SqL K H a xs∧DenAll K H ds xs where
 stop:=fun H ⟨xs,q,g⟩=>⟨xs,q,by rw [g.length]; exact Nat.le_refl _⟩
 go:=fun i H hi ⟨xs,q,g⟩=>⟨xs,xs[i]'(by rw [←g.length]; exact hi),q,List.getElem?_eq_getElem _⟩
 yld:=fun i H x H' hi ⟨xs,q,g⟩ y=>by
  obtain ⟨e,y⟩:=y
  subst e
  obtain ⟨d,h1,h2⟩:=g.get2 (y xs q)
  exact ⟨fun _ _ z=>z,d,h1,h2⟩
theorem BC {K:Kd} {a:Addr} {ds:List PyData}:Wks K (Itt K a) ds fun H=>∃ xs,SqT K H a xs∧DenAll K H ds xs where
 stop:=fun H ⟨xs,q,g⟩=>⟨xs,q,by rw [g.length]; exact Nat.le_refl _⟩
 go:=fun i H hi ⟨xs,q,g⟩=>⟨xs,xs[i]'(by rw [←g.length]; exact hi),q,List.getElem?_eq_getElem _⟩
 yld:=fun i H x H' hi ⟨xs,q,g⟩ y=>by
  obtain ⟨e,y⟩:=y
  subst e
  obtain ⟨d,h1,h2⟩:=g.get2 (y xs q)
  exact ⟨fun _ _ z=>z,d,h1,h2⟩
theorem Wks.imp {K:Kd} {J:It} {ds:List PyData} {C C':Hp→Prop} (h:Wks K J ds C) (k:∀ H,C' H→C H):Wks K J ds C':=⟨fun H c=>h.stop H (k H c),fun i H hi c=>h.go i H hi (k H c),fun i H x H' hi c=>h.yld i H x H' hi (k H c)⟩
theorem GZ (he:ME X e we):MI X tg e (Bz we):=(GJ (tg:=tg) he).wk fun σ H Rq ⟨α,m,Kc,Rl,hw,fin⟩=>by
 refine ⟨α,m,_,Rl,hw,fun r m' v H' k n Rl' rr F=>?_⟩
 cases r with
 | new _=>exact k.elim
 | «at» _ _=>exact k.elim
 | newT _=>exact k.elim
 | obj j =>
  obtain ⟨ds,e1,k⟩:=k
  obtain ⟨p,ep,rfl⟩:=rr
  obtain ⟨xs,q,g⟩:=Rl'.own j _ ds ep e1
  exact ⟨p,rfl,.inl ⟨⟨xs,SqL.of q⟩,fin _ m' _ H' k n Rl' F ⟨p,ep,wks_list.imp fun H ⟨xs,q,g⟩=>⟨xs,SqL.of q,g⟩⟩⟩⟩
 | imm d =>
  cases d with
  | list ds =>
   have h:Den X.kx H' (.list ds) v:=rr
   simp only [Den] at h
   obtain ⟨p,xs,rfl,f,g⟩:=h
   refine ⟨p,rfl,.inl ⟨⟨xs,f.sq⟩,fin _ m' _ H' k n Rl' F ⟨fun H=>∃ xs,FzL X.kx H p xs∧DenAll X.kx H ds xs,wks_list.imp fun H ⟨xs,q,g⟩=>⟨xs,q.sq,g⟩,⟨xs,f,g⟩,fun H1 H2 ⟨xs,q,g⟩ pe=>⟨xs,q.mono pe,g.mono pe⟩⟩⟩⟩
  | tuple ds =>
   have h:Den X.kx H' (.tuple ds) v:=rr
   simp only [Den] at h
   obtain ⟨p,xs,rfl,f,g⟩:=h
   refine ⟨p,rfl,.inr ⟨⟨xs,f⟩,fin _ m' _ H' k n Rl' F ⟨fun H=>∃ xs,SqT X.kx H p xs∧DenAll X.kx H ds xs,BC,⟨xs,f,g⟩,fun H1 H2 ⟨xs,q,g⟩ pe=>⟨xs,q.mono pe,g.mono pe⟩⟩⟩⟩
  | none=>exact k.elim
  | bool _=>exact k.elim
  | int _=>exact k.elim
  | str _=>exact k.elim
  | dict _=>exact k.elim
def ci (lo:Int) (n:Nat):List PyData:=(List.range n).map fun (i:Nat)=>PyData.int (lo + (i:Int))
theorem aH (lo:Int) (n:Nat):(ci lo n).length = n:=by simp [ci]
theorem gu {lo:Int} {n i:Nat} (h:i < n):(ci lo n)[i]? = some (.int (lo + (i:Int))):=by simp [ci,h]
theorem uD {K:Kd} {lo:Int} {n:Nat}:Wks K (Itr lo n) (ci lo n) fun _=>True where
 stop:=fun H _=>by rw [aH]; exact Nat.le_refl _
 go:=fun i H hi _=>by rw [aH] at hi; exact hi
 yld:=fun i H x H' hi _ y=>by
  rw [aH] at hi
  obtain ⟨e,y⟩:=y
  subst e y
  exact ⟨fun _ _ z=>z,_,gu hi,mJ _⟩
def t9 (ws:WA):WI:=fun m K=>ws m fun rs m'=>match rs with | [.imm (.int j)]=>-(2 ^ 62)≤j∧j < 2 ^ 62∧K ⟨ci 0 j.toNat,none⟩ m' | _=>False
theorem au {K:Kd} {H:Hp} {i:Int} {v:V} (h:Den K H (.int i) v):v = .int i:=by simpa only [Den] using h
theorem qT {p:Pos} (hg:Gl X "range") (hm:X.mg "range" = none) (ha:MA X [a] ws) (hs:starEach [a] X.env = [(false,eval a X.env)]:=by first | exact br rfl | rfl):MI X tg (.Call (.Name "range" p) [a] [] pos) (t9 ws):=(sF (tg:=tg) hg hm ha hs).wk fun σ H Rq ⟨α,m,Kc,Rl,hw,fin⟩=>by
 refine ⟨α,m,_,Rl,hw,fun rs m' vs H' k n Rl' rr F=>?_⟩
 match rs,rr,k with
 | [.imm (.int j)],.cons h1 .nil,k =>
  obtain ⟨k1,k2,k⟩:=k
  have e:=au (show Den X.kx H' (.int j) _ from h1)
  subst e
  exact ⟨j,rfl,k1,k2,fin _ m' _ H' k n Rl' F ⟨fun _=>True,uD,trivial,fun _ _ _ _=>trivial⟩⟩
def MSt.setN (m:MSt) (n:Nat):MSt:={ m with np:=n }
def Src.np (s:Src) (m:MSt):Nat:=match s.own with | none=>m.np | some k=>max m.np (k + 1)
def Src.ok (s:Src) (m:MSt):Prop:=match s.own with | none=>True | some k=>m.os[k]? = some s.ds
def la (s:Src) (g:WG) (w:WS):WS:=fun D m1=>∃ P:Nat→MSt→Prop,P 0 (m1.setN (s.np m1)) ∧
 (∀ (i:Nat) (d:PyData) (m:MSt),s.ds[i]? = some d→m.np = s.np m1→P i m→s.ok m∧g d m fun m2=>w { nx:=P (i + 1),ct:=P (i + 1),bk:=fun m'=>D.nx (m'.setN m1.np),rt:=fun r m'=>D.rt r (m'.setN m1.np) } m2) ∧
 ∀ m,m.np = s.np m1→P s.ds.length m→s.ok m∧D.nx (m.setN m1.np)
def wFor (wi:WI) (g:WG) (w:WS):WS:=fun D m=>wi m fun s m1=>la s g w D m1
theorem Rel.setN {K:Kx} {α : Al} {m:MSt} {σ : St} {H:Hp} {n:Nat} (R:Rel K α m σ H) (h:n≤α.length) (he:K.eb.np≤n):Rel K α (m.setN n) σ H:=⟨R.nd,R.len,R.own,R.vlen,R.var,h,he,R.ebx⟩
theorem uB {K:Kx} {s:Src} {g:WG} {w:WS} {J:It} {α : Al} {m1:MSt} {σ : St} {H:Hp} {De:fM} {D:Ends} (Rl:Rel K α m1 σ H) (hJ:mI K α H s J) (h:la s g w De m1) (k:EndsOk K m1.np α H De D) {tb:TS}
  (hb:∀ α' m' σ' H' De' D',α'.take (s.np m1) = α.take (s.np m1)→m'.np = s.np m1→Rel K α' m' σ' H'→w De' m'→EndsOk K m'.np α' H' De' D'→tb D' σ' H'):sX J (tMG K g) tb D σ H:=by
 obtain ⟨P,p0,turn,fin⟩:=h
 have npk:s.np m1≤α.length:=by
  unfold Src.np
  unfold mI at hJ
  cases e:s.own with
  | none=>exact Rl.npl
  | some j =>
   rw [e] at hJ
   obtain ⟨a,ea,_⟩:=hJ
   have:=(List.getElem?_eq_some_iff.mp ea).1
   have:=Rl.npl
   show max m1.np (j + 1)≤α.length
   omega
 have nple:m1.np≤s.np m1:=by
  unfold Src.np
  split
  ·exact Nat.le_refl _
  ·exact Nat.le_max_left _ _
 obtain ⟨C,wk,hC⟩ : ∃ C:Hp→Prop,Wks K J s.ds C∧∀ α' m' σ' H',Rel K α' m' σ' H'→Ext (s.np m1) α H α' H'→s.ok m'→C H':=by
  unfold mI at hJ
  cases e:s.own with
  | none =>
   rw [e] at hJ
   obtain ⟨C,wk,c0,cm⟩:=hJ
   exact ⟨C,wk,fun α' m' σ' H' _ x _=>cm H H' c0 (Rl.pers x.frm)⟩
  | some j =>
   rw [e] at hJ
   obtain ⟨a,ea,wk⟩:=hJ
   refine ⟨_,wk,fun α' m' σ' H' R' x ok=>?_⟩
   have hj:j < s.np m1:=by unfold Src.np; rw [e]; show j < max _ _; omega
   have ea' : α'[j]? = some (.L a):=by
    have:=congrArg (fun l=>l[j]?) x.pre
    simp only [List.getElem?_take,if_pos hj] at this
    rw [this]; exact ea
   unfold Src.ok at ok
   rw [e] at ok
   exact R'.own j _ s.ds ea' ok
 have back:∀ {α':Al} {m':MSt} {σ':St} {H':Hp},Rel K α' m' σ' H'→m'.np = s.np m1→Ext (s.np m1) α H α' H'→Rel K α' (m'.setN m1.np) σ' H':=fun R' n x=>R'.setN (by
  have:=R'.npl
  rw [n] at this; omega) Rl.ebl
 refine ⟨fun i n σ' H'=>n = s.ds.length - i∧i≤s.ds.length∧∃ α' m',P i m'∧m'.np = s.np m1∧Rel K α' m' σ' H'∧Ext (s.np m1) α H α' H',⟨s.ds.length,by simp,Nat.zero_le _,α,_,p0,rfl,Rl.setN npk (Nat.le_trans Rl.ebl nple),.of Rl (Frm.refl _ _)⟩,?_⟩
 rintro i n σ' H' ⟨rfl,hi,α',m',p,hn,R',x⟩
 by_cases hlt:i < s.ds.length
 ·have hd:s.ds[i]? = some s.ds[i]:=List.getElem?_eq_getElem hlt
  obtain ⟨ok,hg⟩:=turn i _ m' hd hn p
  have c:=hC α' m' σ' H' R' x ok
  refine .inr ⟨wk.go i H' hlt c,fun σ2 H2=>∃ α2 m2,P (i + 1) m2∧m2.np = s.np m1∧Rel K α2 m2 σ2 H2∧Ext (s.np m1) α H α2 H2,fun σ2 H2 h2=>⟨s.ds.length - (i + 1),by omega,rfl,hlt,h2⟩,fun v H2 y=>?_⟩
  obtain ⟨grow,d,e1,e2⟩:=wk.yld i H' v H2 hlt c y
  rw [hd] at e1; cases e1
  have F2:Frm α' H' H2:=fun b o z _=>grow b o z
  have R2:Rel K α' m' σ' H2:=R'.at (R'.pers F2) (fun b hb=>by
   obtain ⟨ys,z,_⟩:=R'.mem hb
   rw [z]; exact grow b _ z) F2
  have x2:Ext (s.np m1) α H α' H2:=x.trans (.of R2 F2)
  refine ⟨α',m',_,_,R2,e2,hg,fun m3 σ3 q3 n3 R3=>hb α' m3 σ3 H2 _ _ x2.pre (n3.trans hn) R3 q3 ?_⟩
  have n3':m3.np = s.np m1:=n3.trans hn
  have x3:Ext m3.np α H α' H2:=by rw [n3']; exact x2
  refine ⟨fun α4 m4 σ4 H4 q4 n4 R4 x4=>⟨α4,m4,q4,n4.trans n3',R4,?_⟩,fun r α4 m4 σ4 v4 H4 q4 n4 R4 rr x4=>?_,fun α4 m4 σ4 H4 q4 n4 R4 x4=>?_,fun α4 m4 σ4 H4 q4 n4 R4 x4=>⟨α4,m4,q4,n4.trans n3',R4,?_⟩⟩
  ·rw [←n3']; exact x3.trans x4
  ·have x5:Ext (s.np m1) α H α4 H4:=by rw [←n3']; exact x3.trans x4
   exact k.rt r α4 (m4.setN m1.np) σ4 v4 H4 q4 rfl (back R4 (n4.trans n3') x5) (rr.ext x3) (x5.less nple)
  ·have x5:Ext (s.np m1) α H α4 H4:=by rw [←n3']; exact x3.trans x4
   exact k.nx α4 (m4.setN m1.np) σ4 H4 q4 rfl (back R4 (n4.trans n3') x5) (x5.less nple)
  ·rw [←n3']; exact x3.trans x4
 ·have e:i = s.ds.length:=by omega
  subst e
  obtain ⟨ok,q⟩:=fin m' hn p
  exact .inl ⟨wk.stop H' (hC α' m' σ' H' R' x ok),k.nx α' (m'.setN m1.np) σ' H' q rfl (back R' hn x) (x.less nple)⟩
theorem IU {wi:WI} {g:WG} (hi:MI X tg iter wi) (hg:MG X tg g) (hb:MSs X body w) (hp:PassesOwn (model X.prog X.w) X.A X.env X.xe) (hc:X.calm = true:=by rfl)
  (hs:∀ x,foldedSetIterable iter X.env x = pure x:=by intro _; rfl):MS X (.For tg iter body [] pos) (wFor wi g w):=(G9 hp hc hi hg hb hs).wk fun D σ H ⟨α,m,De,Rl,hw,k⟩ =>
 ⟨α,m,_,Rl,hw,fun s m' J H' q n Rl' F hJ=>uB Rl' hJ q (by rw [n]; exact k.ext (.of Rl' F)) fun α' m' σ' H' De' D' _ _ R' h' k'=>⟨α',m',De',R',h',k'⟩⟩
def rl (t:WT) (w:WS):WS:=fun D m0=>∃ P:Nat→MSt→Prop,(∃ n,P n m0)∧∀ n m,m.np = m0.np→P n m→t m fun c m'=>if c = true then w { D with nx:=fun m2=>∃ n',n' < n∧P n' m2,ct:=fun m2=>∃ n',n' < n∧P n' m2,bk:=D.nx } m' else D.nx m'
theorem wr {t:Expr} (ht:MT X t wt) (hb:MSs X body w) (hp:PassesOwn (model X.prog X.w) X.A X.env X.xe):MS X (.While t body [] pos) (rl wt w):=(wq hp ht hb).wk fun D σ H ⟨α,m,De,Rl,⟨P,⟨n0,p0⟩,turn⟩,k⟩=>by
 refine ⟨fun n σ' H'=>∃ α' m',P n m'∧m'.np = m.np∧Rel X.kx α' m' σ' H'∧Ext m.np α H α' H',⟨n0,α,m,p0,rfl,Rl,.of Rl (Frm.refl _ _)⟩,?_⟩
 rintro n σ1 H1 ⟨α1,m1,p1,n1,R1,x1⟩
 refine ⟨α1,m1,_,R1,turn n m1 n1 p1,fun bb m2 H2 q n2 R2 F2=>?_⟩
 have x2:Ext m.np α H α1 H2:=x1.trans (.of R2 F2)
 have n2':m2.np = m.np:=n2.trans n1
 cases bb with
 | true =>
  rw [if_pos rfl] at q
  refine iteT ⟨fun σ3 H3=>∃ n',n' < n∧∃ α' m',P n' m'∧m'.np = m.np∧Rel X.kx α' m' σ3 H3∧Ext m.np α H α' H3,fun σ3 H3 ⟨n',hl,z⟩=>⟨n',hl,z⟩,α1,m2,_,R2,q,?_⟩
  rw [n2']
  exact ⟨fun α' m' σ' H' ⟨n',hl,q⟩ nn R' y=>⟨n',hl,α',m',q,nn,R',x2.trans y⟩,fun r α' m' σ' v H' q nn R' rr y=>k.rt r α' m' σ' v H' q nn R' (rr.ext x2) (x2.trans y),fun α' m' σ' H' q nn R' y=>k.nx α' m' σ' H' q nn R' (x2.trans y),fun α' m' σ' H' ⟨n',hl,q⟩ nn R' y=>⟨n',hl,α',m',q,nn,R',x2.trans y⟩⟩
 | false =>
  rw [if_neg Bool.false_ne_true] at q
  exact iteF (k.nx α1 m2 σ1 H2 q n2' R2 x2)
end
section
variable {K:Kx} {α : Al} {m:MSt} {σ : St} {H:Hp}
theorem Rel.setW {H':Hp} {q:Nat} {ao:Ao} {ds':List PyData} (R:Rel K α m σ H) (ha : α[q]? = some ao) (pe:Pers H H') (F:∀ b,b∉ao.ads→H' b = H b) (g:OwnAt K H' ao ds'):Rel K α { m with os:=m.os.set q ds' } σ H'∧Frm α H H':=by
 have Fα : Frm α H H':=fun b o e nb=>by rw [F b fun z=>nb (jJ ha z)]; exact e
 have own':∀ (k:Nat) (a:Ao) (es:List PyData),α[k]? = some a→(m.os.set q ds')[k]? = some es→OwnAt K H' a es:=fun k a es z1 z2'=>by
  by_cases c:q = k
  ·subst c
   rw [ha] at z1; cases z1
   rw [List.getElem?_set_self (by rw [←R.len]; exact (List.getElem?_eq_some_iff.mp ha).1)] at z2'
   cases z2'
   exact g
  ·rw [List.getElem?_set_ne c] at z2'
   exact (R.own k a es z1 z2').mono pe fun b hb=>F b fun z=>fe R.nd ha z1 c z hb
 refine ⟨⟨R.nd,by simp [R.len],own',R.vlen,fun i r h=>?_,R.npl,R.ebl,R.ebx.trans ⟨rfl,Fα,fun _ h=>.inl h,fun a ha=>?_⟩⟩,Fα⟩
 ·obtain ⟨v,ev,rv⟩:=R.var i r h
  refine ⟨v,ev,?_⟩
  cases r with
  | imm d=>exact Den.mono pe rv
  | obj k=>exact rv
  | «at» k p=>exact rv
  | new ds=>exact rv
  | newT t=>exact rv
 ·obtain ⟨k,ao,e1,hm⟩:=ii ha
  have hk:k < (m.os.set q ds').length:=by rw [List.length_set,←R.len]; exact (List.getElem?_eq_some_iff.mp e1).1
  obtain ⟨o,q,_⟩:=(own' k ao _ e1 (List.getElem?_eq_getElem hk)).mem hm
  exact ⟨o,q⟩
theorem Rel.setO {q:Nat} {l:Addr} {xs xs':List V} {ds':List PyData} (R:Rel K α m σ H) (ha : α[q]? = some (.L l)) (hl:H l = some (.lst xs)) (g:DenAll K H ds' xs'):Rel K α { m with os:=m.os.set q ds' } σ (upd H l (.lst xs'))∧Frm α H (upd H l (.lst xs')):=by
 have pe:Pers H (upd H l (.lst xs')):=ph hl
 exact R.setW ha pe (fun b hb=>av fun e=>hb (List.mem_singleton.mpr e)) ⟨xs',aC,g.mono pe⟩
end
def qC (own:List Str) (ps:List Nat) (vs:List (Option R)):List (Option R):=own.map (fun _=>none)++ps.map fun i=>(vs[i]?).join
def jf (own:List Str) (ps:List Nat) (m:MSt):MSt:=⟨qC own ps m.vs,m.os++[[]],m.os.length + 1⟩
def wIfT (tt:WT) (w:WS):WS:=fun D m=>tt m fun b m'=>if b = true then w D m' else D.nx m'
def yf (q:Nat) (we:WE):WS:=fun D m=>we m fun r m'=>cf (fun d=>∃ ds,m'.os[q]? = some ds∧ds.length < sizeLine∧D.nx { m' with os:=m'.os.set q (ds++[d]) }) r
def jz (wi:WI) (own:List Str) (ps:List Nat) (g:WG) (tt:WT) (we:WE):WE:=fun m K=>wi m fun s m1 =>
 la s g (wIfT tt (yf m1.os.length we)) { nx:=fun m'=>K (.new (m'.os.getD m1.os.length [])) { m1 with os:=m'.os.take m1.os.length },rt:=fun _ _=>False } (jf own ps m1)
def mw:WT:=fun m K=>K true m
section
variable {K:Kx}
theorem BH {q:Nat} {we:WE} {α : Al} {m:MSt} {σ : St} {H:Hp} {De:fM} {D:Ends} {l:Addr} (ha : α[q]? = some (.L l)) (Rl:Rel K α m σ H) (h:yf q we De m) (k:EndsOk K m.np α H De D):u8 l (tM K we) D σ H:=by
 refine ⟨α,m,_,Rl,h,fun r m' v H' kk n R' rr F=>?_⟩
 obtain ⟨d,er,hd,ds,e1,hz,kk⟩:=cG rr kk
 obtain ⟨xs,hx,g⟩:=R'.own q _ ds ha e1
 obtain ⟨R2,F2⟩:=R'.setO ha hx (g.append (DenAll.cons hd DenAll.nil))
 exact ⟨xs,hx,by rw [←g.length]; exact hz,k.nx α _ σ _ kk n R2 (.of R2 (F.trans F2))⟩
theorem Fb {tt:WT} {w:WS} {tb:TS} {α : Al} {m:MSt} {σ : St} {H:Hp} {De:fM} {D:Ends} (Rl:Rel K α m σ H) (h:wIfT tt w De m) (k:EndsOk K m.np α H De D)
  (hb:∀ m' H',m'.np = m.np→Rel K α m' σ H'→w De m'→EndsOk K m'.np α H' De D→tb D σ H'):tIfT (tMT K tt) tb D σ H:=by
 refine ⟨α,m,_,Rl,h,fun bb m' H' q n R' F=>?_⟩
 have k':EndsOk K m'.np α H' De D:=by rw [n]; exact k.ext (.of R' F)
 cases bb with
 | true=>rw [if_pos rfl] at q; exact iteT (hb m' H' n R' q k')
 | false=>rw [if_neg Bool.false_ne_true] at q; exact iteF (k'.nx α m' σ H' q rfl R' (.of R' (Frm.refl _ _)))
theorem Bi {own:List Str} {ps:List Nat} {s:Src} {g:WG} {w:WS} {J:It} {α : Al} {m m1:MSt} {σ : St} {H H1:Hp} {l:Addr} {Kc:R→MSt→Prop} {Q:VK} {tb:TS} (Rl:Rel K α m σ H) (n1:m1.np = m.np) (Rl1:Rel K α m1 σ H1) (F1:Frm α H H1) (hJ:mI K α H1 s J) (hl:H1 l = none)
  (h:la s g w { nx:=fun m'=>Kc (.new (m'.os.getD m1.os.length [])) { m1 with os:=m'.os.take m1.os.length },rt:=fun _ _=>False } (jf own ps m1))
  (fin:∀ r m' v H',Kc r m'→m'.np = m.np→Rel K α m' σ H'→RelR K α H H' r v→Frm α H H'→Q v H')
  (hb:∀ α' m' σ' H' De' D',α'[m1.os.length]? = some (.L l)→m1.os.length < m'.np→Rel K α' m' σ' H'→w De' m'→EndsOk K m'.np α' H' De' D'→tb D' σ' H') :
  sX J (tMG K g) tb { nx:=fun _ H'=>Q (.ref l) H',rt:=fun _ _=>False } (d7 own ps σ) (upd H1 l (.lst [])):=by
 have pα : l∉ads α:=Rl1.out hl
 have pe:Pers H1 (upd H1 l (.lst [])):=aZ (.inl hl)
 have hlen : α.length = m1.os.length:=Rl1.len
 have at0:(α++[.L l])[m1.os.length]? = some (.L l):=by rw [List.getElem?_append_right (by omega),←hlen]; simp
 have Rl1':Rel K α m1 σ (upd H1 l (.lst [])):=Rl1.lay hl
 obtain ⟨Rm,extm⟩:=kF (ao:=.L l) (ds:=[]) Rl1' ⟨m1,σ,Rl1⟩ (bR hl) (by simp [Ao.ads]) (fun b hb=>by cases List.mem_singleton.mp hb; exact hl) ⟨[],aC,DenAll.nil⟩
 have R0:Rel K (α++[.L l]) (jf own ps m1) (d7 own ps σ) (upd H1 l (.lst [])):=by
  refine ⟨Rm.nd,by simp [jf,hlen],Rm.own,by simp [d7,jf,qC],fun i r z=>?_,by simp [jf,hlen],by have:=Rl1.ebl; have:=Rl1.npl; show K.eb.np≤m1.os.length + 1; omega,Rm.ebx⟩
  have z':(qC own ps m1.vs)[i]? = some (some r):=z
  unfold qC at z'
  by_cases hi:i < own.length
  ·rw [List.getElem?_append_left (by simpa using hi),List.getElem?_map] at z'
   cases q:own[i]? with
   | none=>rw [q] at z'; cases z'
   | some y=>rw [q] at z'; cases z'
  ·rw [List.getElem?_append_right (by simpa using hi),List.length_map,List.getElem?_map] at z'
   cases q:ps[i - own.length]? with
   | none=>rw [q] at z'; cases z'
   | some p =>
    rw [q] at z'
    have z2:(m1.vs[p]?).join = some r:=Option.some.inj z'
    have hv:m1.vs[p]? = some (some r):=by
     cases y:m1.vs[p]? with
     | none=>rw [y] at z2; cases z2
     | some y'=>rw [y] at z2; cases y' with
      | none=>cases z2
      | some y'=>cases z2; rfl
    obtain ⟨v,ev,rv⟩:=Rm.var p r hv
    refine ⟨v,?_,rv⟩
    unfold d7
    rw [List.getElem?_append_right (by simpa using hi),List.length_map,List.getElem?_map,q]
    show some ((σ[p]?).join) = some (some v)
    rw [ev]; rfl
 have hJ':mI K (α++[.L l]) (upd H1 l (.lst [])) s J:=by
  unfold mI at hJ ⊢
  cases e:s.own with
  | none =>
   rw [e] at hJ
   obtain ⟨C,wk,c0,cm⟩:=hJ
   exact ⟨C,wk,cm _ _ c0 pe,cm⟩
  | some j =>
   rw [e] at hJ
   obtain ⟨a,ea,wk⟩:=hJ
   exact ⟨a,by rw [List.getElem?_append_left (List.getElem?_eq_some_iff.mp ea).1]; exact ea,wk⟩
 have npq:m1.os.length < s.np (jf own ps m1):=by
  unfold Src.np
  split
  ·exact Nat.lt_succ_self _
  ·exact Nat.lt_of_lt_of_le (Nat.lt_succ_self _) (Nat.le_max_left _ _)
 refine uB R0 hJ' h ⟨fun α' m' σ' H' q n R' x=>?_,fun _ _ _ _ _ _ z=>z.elim,fun _ _ _ _ z=>z.elim,fun _ _ _ _ z=>z.elim⟩ fun α' m' σ' H' De' D' hp hnp R' h' k'=>hb α' m' σ' H' De' D' ?_ (by rw [hnp]; exact npq) R' h' k'
 ·
  have n':m'.np = m1.os.length + 1:=n
  have x':Ext (m1.os.length + 1) (α++[.L l]) (upd H1 l (.lst [])) α' H':=x
  have F':Frm α H1 H':=fun b o e nb=>by
   have hbl:b≠l:=aU e hl
   refine x'.frm b o (by rw [av hbl]; exact e) fun z=>?_
   rw [fH] at z
   rcases List.mem_append.mp z with z | z
   ·exact nb z
   ·exact hbl (by simpa [ads,Ao.ads] using z)
  have pe':Pers H1 H':=Rl1.pers F'
  have same:∀ k,k < m1.os.length + 1→α'[k]? = (α++[.L l])[k]?:=fun k hk=>by
   have:=congrArg (fun z=>z[k]?) x'.pre
   simp only [List.getElem?_take,if_pos hk] at this
   exact this
  have hlen':m1.os.length + 1≤m'.os.length:=by
   have:=R'.npl
   rw [n',R'.len] at this
   exact this
  have hq:m1.os.length < m'.os.length:=by omega
  have eq1:m'.os[m1.os.length]? = some (m'.os.getD m1.os.length []):=by
   rw [List.getD_eq_getElem?_getD,List.getElem?_eq_getElem hq]; rfl
  obtain ⟨xs,y1,y2⟩:=R'.own m1.os.length (.L l) _ (by rw [same _ (Nat.lt_succ_self _)]; exact at0) eq1
  have own':∀ (k:Nat) (a:Ao) (es:List PyData),α[k]? = some a→(m'.os.take m1.os.length)[k]? = some es→OwnAt K H' a es:=fun k a es z1 z2'=>by
   rw [List.getElem?_take] at z2'
   have hk:k < m1.os.length:=by rw [←hlen]; exact (List.getElem?_eq_some_iff.mp z1).1
   rw [if_pos hk] at z2'
   exact R'.own k a es (by rw [same k (by omega),List.getElem?_append_left (by omega)]; exact z1) z2'
  have tl:(m'.os.take m1.os.length).length = α.length:=by rw [List.length_take]; omega
  have old':Ext K.eb.np α H1 α H':=⟨rfl,F',fun _ h=>.inl h,fun a ha=>by
   obtain ⟨k,ao,e1,hm⟩:=ii ha
   have hk:k < (m'.os.take m1.os.length).length:=by rw [tl]; exact (List.getElem?_eq_some_iff.mp e1).1
   obtain ⟨o,q,_⟩:=(own' k ao _ e1 (List.getElem?_eq_getElem hk)).mem hm
   exact ⟨o,q⟩⟩
  refine fin _ _ (.ref l) H' q n1 ⟨Rl1.nd,tl.symm,own',Rl1.vlen,fun i r z=>?_,Rl1.npl,Rl1.ebl,Rl1.ebx.trans old'⟩ ?_ (F1.trans F')
  ·obtain ⟨v,ev,rv⟩:=Rl1.var i r z
   refine ⟨v,ev,?_⟩
   cases r with
   | imm d=>exact Den.mono pe' rv
   | obj k=>exact rv
   | «at» k p=>exact rv
   | new ds=>exact rv
   | newT t=>exact rv
  ·refine ⟨l,xs,rfl,?_,y1,y2⟩
   cases z:H l with
   | none=>rfl
   | some o =>
    have:=F1 l o z pα
    rw [hl] at this; cases this
 ·have:=congrArg (fun z=>z[m1.os.length]?) hp
  simp only [List.getElem?_take,if_pos npq] at this
  rw [this]; exact at0
end
section
variable {X:Cx} {scope sc:Scope} {own fr:List Str} {ps:List Nat} {elt tg iter tg2 iter2:Expr} {ifs ifs2:List Expr} {pos spos py:Pos} {wi wi2:WI} {g g2:WG} {tt tt2:WT} {we:WE}
theorem n9 {σ : St} {H:Hp} {Q:VK} (h:tM X.kx (jz wi own ps g tt we) σ H Q):Cu (tMI X.kx wi) own ps (tl1 (tMG X.kx g) (tMT X.kx tt) (tM X.kx we)) σ H Q:=by
 obtain ⟨α,m,Kc,Rl,hw,fin⟩:=h
 refine ⟨α,m,_,Rl,hw,fun s m1 J H1 k n1 Rl1 F1 hJ l hl=>?_⟩
 exact Bi Rl n1 Rl1 F1 hJ hl k fin fun α' m' σ' H' De' D' ha hnp R' h' k'=>Fb R' h' k' fun m2 H2 n2 R2 h2 k2=>BH ha R2 h2 k2
theorem xi (S:b8 own fr scope sc) (hi:MI X tg iter wi) (hg:∀ cl s H C ex,MG (bp X scope cl (own++fr) s H C ex) tg g) (ht:∀ cl s H C ex,PTs (bp X scope cl (own++fr) s H C ex) ifs (tMT X.kx tt))
  (he:∀ cl s H C ex,ME (bp X scope cl (own++fr) s H C ex) elt we) (hsc:X.env.scope = sc:=by rfl) (hps:ps.map (fun i=>X.N[i]?) = fr.map some:=by rfl) (hc:X.calm = true:=by rfl) (hs:∀ x,foldedSetIterable iter X.env x = pure x:=by intro _; rfl) :
  ME X (.ListComp elt [⟨tg,iter,ifs,0⟩] scope pos) (jz wi own ps g tt we):=(wX S hi hg ht he hsc hps hc hs).wk fun _ _ _ h=>n9 h
theorem zY:PTs X [] (tMT X.kx mw):=fun pins s σ H Q I ⟨α,m,Kc,Rl,hw,fin⟩=>Cf pins s σ H Q I (fin true m H hw rfl Rl (Frm.refl _ _))
theorem vm {i:Nat} {y:Str} (S:b8 own fr scope sc) (hN:X.N.Nodup) (hy:X.N[i]? = some y) (hlc:X.env.scope.names.lookup y = some .local) (hi:MI X tg iter wi) (hg:∀ cl s H C ex,MG (bp X scope cl (own++fr) s H C ex) tg g) (ht:∀ cl s H C ex,PTs (bp X scope cl (own++fr) s H C ex) ifs (tMT X.kx tt))
  (he:∀ cl s H C ex,ME (bp X scope cl (own++fr) s H C ex) elt we) (hsw:swapsWith (.ListComp elt [⟨tg,iter,ifs,0⟩] scope pos) (some (.Name y py)) spos.line X.env = pure true:=by rfl)
  (hsc:X.env.scope = sc:=by rfl) (hps:ps.map (fun i=>X.N[i]?) = fr.map some:=by rfl) (hc:X.calm = true:=by rfl) (hs:∀ x,foldedSetIterable iter X.env x = pure x:=by intro _; rfl) :
  MS X (.Assign [.Name y py] (.ListComp elt [⟨tg,iter,ifs,0⟩] scope pos) spos) (wSet i (jz wi own ps g tt we)):=(wj S hN hy hlc hi hg ht he hsw hsc hps hc hs).wk fun D σ H ⟨α,m,De,Rl,hw,k⟩ =>
 n9 ⟨α,m,_,Rl,hw,fun r m' v H' q n Rl' rr F=>qH (Q:=D.nx) Rl' n F rr q k.nx ⟨m,σ,Rl⟩⟩
end
theorem aW {K:Kd} {H:Hp} {i:Str} {v:V} (h:Den K H (.str i) v):v = .str i:=by simpa only [Den] using h
theorem fz {K:Kd} {H:Hp} {i:Bool} {v:V} (h:Den K H (.bool i) v):v = .bl i:=by simpa only [Den] using h
theorem dW {K:Kd} {H:Hp} {v:V} (h:Den K H .none v):v = .non:=by simpa only [Den] using h
theorem cA {K:Kd} {α : Al} {Hb H:Hp} (i:Int):RelR K α Hb H (.imm (.int i)) (.int i):=mJ (K:=K) (H:=H) i
theorem je {K:Kd} {α : Al} {Hb H:Hp} (i:Bool):RelR K α Hb H (.imm (.bool i)) (.bl i):=uY (K:=K) (H:=H) i
theorem sk {K:Kd} {α : Al} {Hb H:Hp} (i:Str):RelR K α Hb H (.imm (.str i)) (.str i):=CK (K:=K) (H:=H) i
theorem l7 {K:Kd} {α : Al} {Hb H:Hp}:RelR K α Hb H (.imm .none) .non:=Ai (K:=K) (H:=H)
theorem dj {K:Kd} {α : Al} {Hb H:Hp} {d:PyData} {v:V} (h:Den K H d v):RelR K α Hb H (.imm d) v:=h
theorem aY {K:Kd} {H:Hp} {ds:List PyData} {v:V} (h:Den K H (.tuple ds) v):∃ a xs,v = .ref a∧SqT K H a xs∧DenAll K H ds xs:=by simpa only [Den] using h
theorem cN {K:Kd} {H:Hp} {ds:List PyData} {a:Addr} {xs:List V} (f:SqT K H a xs) (g:DenAll K H ds xs):Den K H (.tuple ds) (.ref a):=by simp only [Den]; exact ⟨a,xs,rfl,f,g⟩
section
variable {X:Cx}
def oAdd:WO
 | .imm (.int i),.imm (.int j),_,K=>K (.imm (.int (i + j)))
 | .imm (.str x),.imm (.str y),_,K=>x.length + y.length≤sizeLine∧K (.imm (.str (x++y)))
 | .imm (.tuple a),.imm (.tuple b),_,K=>a.length + b.length≤sizeLine∧K (.imm (.tuple (a++b)))
 | r1,r2,m,K=>∃ xs ys,lsOf m r1 = some xs∧lsOf m r2 = some ys∧xs.length + ys.length≤sizeLine∧K (.new (xs++ys))
theorem aF:OpR X (binaryOp .Add) (rM X.kx oAdd):=by
 rintro pins s σ' H x y v u Q I rx ry ⟨α,m,σ,H0,H1,r1,r2,Kc,Rl,h1,h2,ho,fin⟩
 unfold oAdd at ho
 split at ho
 ·rename_i _ _ i j
  have e1:=au (show Den X.kx H (.int i) x from h1)
  have e2:=au (show Den X.kx H (.int j) y from h2)
  subst e1 e2
  exact F7 pins s σ' H _ _ v u Q I rx ry ⟨i,j,rfl,rfl,fin _ _ H ho Rl (cA _) (Frm.refl _ _)⟩
 ·rename_i _ _ i j
  have e1:=aW (show Den X.kx H (.str i) x from h1)
  have e2:=aW (show Den X.kx H (.str j) y from h2)
  subst e1 e2
  exact pZ pins s σ' H _ _ v u Q I rx ry ⟨i,j,rfl,rfl,ho.1,fin _ _ H ho.2 Rl (sk _) (Frm.refl _ _)⟩
 ·rename_i _ _ ds es
  obtain ⟨a,xs,rfl,f1,g1⟩:=aY (show Den X.kx H (.tuple ds) x from h1)
  obtain ⟨b,ys,rfl,f2,g2⟩:=aY (show Den X.kx H (.tuple es) y from h2)
  obtain ⟨hz,ho⟩:=ho
  by_cases hx:xs = []
  ·subst hx
   cases rx; cases ry
   obtain ⟨its,rv1,p1,_⟩:=I.tuple f1
   obtain ⟨its2,rv2,p2,_⟩:=I.tuple f2
   cases rv1
   obtain ⟨⟨cls,dd,data,sl⟩,ho1,hc,n,hd⟩:=id p1
   obtain ⟨⟨cls2,dd2,data2,sl2⟩,ho2,hc2,n2,hd2⟩:=id p2
   simp only at hc hd hc2 hd2
   subst hc hd hc2 hd2
   have e0:ds = []:=by cases ds with | nil=>rfl | cons _ _=>have:=g1.length; simp at this
   subst e0
   exact concat_meets ⟨_,ho1,rfl⟩ ⟨_,ho2,rfl⟩ noFill_tuple_add seq_tuple_add PySem.F.slot_tuple_add PySem.F.entry_tuple_add (PySem.F.args_tuple_add_2 _ _)
    (tuple_addW0 a b _ its2.toArray n n2 dd dd2 sl sl2 (by simp)) ⟨ho1,ho2,⟨.ref b,H,I,rfl,fin _ _ H ho Rl (show Den X.kx H (.tuple ([]++es)) (.ref b) from h2) (Frm.refl _ _)⟩⟩
  ·refine Bc pins s σ' H _ _ v u Q I rx ry ⟨a,b,xs,ys,rfl,rfl,f1,f2,hx,by rw [←g1.length,←g2.length]; exact hz,fun e=>?_,fun e p hp=>?_⟩
   ·subst e
    have e0:es = []:=by cases es with | nil=>rfl | cons _ _=>have:=g2.length; simp at this
    subst e0
    exact fin _ _ H (by rw [List.append_nil] at ho; exact ho) Rl (dj h1) (Frm.refl _ _)
   ·exact fin _ _ _ ho (Rl.lay hp) (dj <| cN (SqT.of aC) ((g1.append g2).mono (aZ (.inl hp)))) (bR hp)
 ·obtain ⟨ds,es,e1,e2,hz,ho⟩:=ho
  obtain ⟨a,xs,rfl,f1,g1⟩:=h1.list Rl e1
  obtain ⟨b,ys,rfl,f2,g2⟩:=h2.list Rl e2
  cases rx; cases ry
  obtain ⟨its,rv1,⟨⟨cls,dd,data,sl⟩,n,ho1,hc,hdd,hd⟩,_⟩:=I.list f1
  obtain ⟨its2,rv2,⟨⟨cls2,dd2,data2,sl2⟩,n2,ho2,hc2,hdd2,hd2⟩,_⟩:=I.list f2
  simp only at hc hd hc2 hd2
  subst hc hd hc2 hd2
  have hzz:xs.length + ys.length≤sizeLine:=by rw [←g1.length,←g2.length]; exact hz
  refine concat_meets ⟨_,ho1,rfl⟩ ⟨_,ho2,rfl⟩ noFill_list_add seq_list_add PySem.F.slot_list_add PySem.F.entry_list_add (PySem.F.args_list_add_2 _ _) (list_addW a b its.toArray its2.toArray n n2 dd dd2 sl sl2 (by have:=rv1.length; have:=rv2.length; simp only [List.size_toArray]; omega)) ⟨ho1,ho2,?_⟩
  have ea:its.toArray++its2.toArray = (its++its2).toArray:=by simp
  rw [ea]
  have hp:H s.heap.objs.size = none:=I.fresh
  exact ⟨.ref _,_,I.lnew (t':=s.toks) (rv1.append rv2) (by rw [List.length_append]; omega),rfl,fin _ _ _ ho (Rl.lay hp) ⟨_,xs++ys,rfl,hp,aC,(g1.append g2).mono (aZ (.inl hp))⟩ (bR hp)⟩
def oII (C:Int→Int→Prop) (g:Int→Int→Int):WO
 | .imm (.int i),.imm (.int j),_,K=>C i j∧K (.imm (.int (g i j)))
 | _,_,_,_=>False
def oIB (g:Int→Int→Bool):WO
 | .imm (.int i),.imm (.int j),_,K=>K (.imm (.bool (g i j)))
 | _,_,_,_=>False
theorem lb {f:Value→Value→Sem Value} {C:Int→Int→Prop} {g:Int→Int→Int} (h:OpR X f (rI C fun i j=>.int (g i j))):OpR X f (rM X.kx (oII C g)):=by
 rintro pins s σ' H x y v u Q I rx ry ⟨α,m,σ,H0,H1,r1,r2,Kc,Rl,h1,h2,ho,fin⟩
 unfold oII at ho
 split at ho
 ·rename_i _ _ i j
  have e1:=au (show Den X.kx H (.int i) x from h1)
  have e2:=au (show Den X.kx H (.int j) y from h2)
  subst e1 e2
  exact h pins s σ' H _ _ v u Q I rx ry ⟨i,j,rfl,rfl,ho.1,fin _ _ H ho.2 Rl (cA _) (Frm.refl _ _)⟩
 ·exact ho.elim
theorem oh {f:Value→Value→Sem Value} {g:Int→Int→Bool} (h:OpR X f (rI0 fun i j=>.bl (g i j))):OpR X f (rM X.kx (oIB g)):=by
 rintro pins s σ' H x y v u Q I rx ry ⟨α,m,σ,H0,H1,r1,r2,Kc,Rl,h1,h2,ho,fin⟩
 unfold oIB at ho
 split at ho
 ·rename_i _ _ i j
  have e1:=au (show Den X.kx H (.int i) x from h1)
  have e2:=au (show Den X.kx H (.int j) y from h2)
  subst e1 e2
  exact h pins s σ' H _ _ v u Q I rx ry ⟨i,j,rfl,rfl,fin _ _ H ho Rl (je _) (Frm.refl _ _)⟩
 ·exact ho.elim
def oSub:WO:=oII (fun _ _=>True) fun i j=>i - j
theorem uu:OpR X (binaryOp .Sub) (rM X.kx oSub):=lb (opI fun _ _ _ _ _ _ _ _ q=>sub_int q)
def oMul:WO:=oII IntMulOk fun i j=>i * j
theorem zP:OpR X (binaryOp .Mult) (rM X.kx oMul):=lb (opI fun _ _ _ _ _ _ _ hc q=>mul_int q hc)
def CFd (_ j:Int):Prop:=0 < j∧j.natAbs.log2 < 9000
def F9:WO:=oII CFd fun i j=>i / j
theorem dU:OpR X (binaryOp .FloorDiv) (rM X.kx F9):=lb (opI fun i j _ _ _ _ _ hc q=>floordiv_int (by have:=hc.1; omega) (by rw [Int.fdiv_eq_ediv_of_nonneg _ (by have:=hc.1; omega)]; exact q) (.inl (PyProof.noPylong_of_log2 hc.2)))
def oMod:WO:=oII (fun _ j=>0 < j) fun i j=>i % j
theorem cJ:OpR X (binaryOp .Mod) (rM X.kx oMod):=lb GN
def oPow:WO:=oII CPow fun i j=>i ^ j.toNat
theorem Ab:OpR X (binaryOp .Pow) (rM X.kx oPow):=lb Fu
def oLt:WO:=oIB fun i j=>decide (i < j)
def oLe:WO:=oIB fun i j=>decide (i≤j)
def oGt:WO:=oIB fun i j=>decide (j < i)
def oGe:WO:=oIB fun i j=>decide (j≤i)
theorem lw:OpR X (compareOp .Lt) (rM X.kx oLt):=oh JF
theorem yp:OpR X (compareOp .LtE) (rM X.kx oLe):=oh Jb
theorem rE:OpR X (compareOp .Gt) (rM X.kx oGt):=oh JH
theorem Gq:OpR X (compareOp .GtE) (rM X.kx oGe):=oh J4
def eqD (f:Bool→Bool):WO:=fun r1 r2 m K=>match asD m r1,asD m r2 with
 | some d1,some d2=>SeqAt.shaped d1 = true∧SeqAt.shaped d2 = true∧K (.imm (.bool (f (PyData.eqv d1 d2))))
 | _,_=>False
def eqS (f:Bool→Bool):WO:=fun r1 r2 m K=>∃ x y:Str,r1 = .imm (.str x)∧r2 = .imm (.str y)∧K (.imm (.bool (f (decide (x = y)))))
def eqSs (f:Bool→Bool):WO:=fun r1 r2 m K=>∃ xs ys:List Str,lsOf m r1 = some (xs.map .str)∧lsOf m r2 = some (ys.map .str)∧xs.length = ys.length∧K (.imm (.bool (f (decide (xs = ys)))))
def oEq:WO:=fun r1 r2 m K=>eqD id r1 r2 m K∨eqS id r1 r2 m K∨eqSs id r1 r2 m K
def oNe:WO:=fun r1 r2 m K=>eqD (!·) r1 r2 m K∨eqS (!·) r1 r2 m K
theorem di {K:Kd} {H:Hp}:∀ {ns:List Str} {xs:List V},DenAll K H (ns.map .str) xs→xs = ns.map V.str
 | [],_,h=>by simpa only [List.map_nil,DenAll] using h
 | n :: ns,_,h=>by
  simp only [List.map_cons,DenAll] at h
  obtain ⟨v,vs,rfl,h1,h2⟩:=h
  have e:=aW (K:=K) (H:=H) h1
  rw [e,di h2]; rfl
theorem ku:∀ {ns:List Str} {us:List Value} {j:Nat} {u:Value},Vals (ns.map V.str) us→us[j]? = some u→∃ x t,ns[j]? = some x∧u = .str x t
 | [],_,_,_,.nil,e=>by simp at e
 | n :: ns,_,0,_,.cons r _,e=>by
  simp at e; subst e
  obtain ⟨t,h⟩:=r
  exact ⟨n,t,rfl,h⟩
 | n :: ns,_,j + 1,u,.cons _ t,e=>by
  obtain ⟨x,tk,h1,h2⟩:=ku (j:=j) (u:=u) t (by simpa using e)
  exact ⟨x,tk,by simpa using h1,h2⟩
theorem mN (xs ys:List Str) (h:xs.length = ys.length):(List.range xs.length).all (fun j=>decide (xs.getD j Str.empty = ys.getD j Str.empty)) = decide (xs = ys):=by
 rw [Bool.eq_iff_iff,List.all_eq_true,decide_eq_true_eq]
 constructor
 ·intro q
  apply List.ext_getElem h
  intro i h1 h2
  have:=q i (by simpa using h1)
  rw [decide_eq_true_eq,List.getD_eq_getElem?_getD,List.getD_eq_getElem?_getD,List.getElem?_eq_getElem h1,List.getElem?_eq_getElem h2] at this
  exact this
 ·rintro rfl j _
  exact decide_eq_true rfl
theorem Ad {pins:List (Addr×Obj)} {s:Shared} {σ' σ : St} {H H0 H1:Hp} {x y:V} {v u:Value} {α : Al} {m:MSt} {r1 r2:R} {xs ys:List Str} (I:Inv X pins σ' H s) (Rl:Rel X.kx α m σ H) (h1:RelR X.kx α H0 H r1 x) (h2:RelR X.kx α H1 H r2 y) (rx:RelV x v) (ry:RelV y u)
  (e1:lsOf m r1 = some (xs.map .str)) (e2:lsOf m r2 = some (ys.map .str)) (hl:xs.length = ys.length) (hu:X.A.units + 64 < cLine):∃ l b its its2,v = .ref l∧u = .ref b∧s.heap.IsList l its∧s.heap.IsList b its2∧its.size = xs.length∧its2.size = xs.length ∧
   ∀ j (z1:j < its.size) (z2:j < its2.size),SeqAt.EqAt X.A.in1 s its[j] its2[j] (decide (xs.getD j Str.empty = ys.getD j Str.empty)):=by
 obtain ⟨a,zs,rfl,f1,g1⟩:=h1.list Rl e1
 obtain ⟨b,ws,rfl,f2,g2⟩:=h2.list Rl e2
 have q1:=di g1
 have q2:=di g2
 subst q1 q2
 cases rx; cases ry
 obtain ⟨its,rv1,p1,_⟩:=I.list f1
 obtain ⟨its2,rv2,p2,_⟩:=I.list f2
 have l1:=rv1.length
 have l2:=rv2.length
 rw [List.length_map] at l1 l2
 refine ⟨a,b,its.toArray,its2.toArray,rfl,rfl,p1.isList,p2.isList,by simp [l1],by simp [←l2,hl],fun j z1 z2=>?_⟩
 obtain ⟨x,t,h3,h4⟩:=ku rv1 (j:=j) (u:=its.toArray[j]) (by rw [List.getElem_toArray,List.getElem?_eq_getElem])
 obtain ⟨y,t',h5,h6⟩:=ku rv2 (j:=j) (u:=its2.toArray[j]) (by rw [List.getElem_toArray,List.getElem?_eq_getElem])
 rw [h4,h6,List.getD_eq_getElem?_getD,List.getD_eq_getElem?_getD,h3,h5]
 have:=SeqAt.EqAt.str_str (A:=X.A.in1) (s:=s) x t y t'
 have e:(x == y) = decide (x = y):=by rw [Bool.beq_eq_decide_eq]
 rw [e] at this
 exact this
theorem aI (hu:X.A.units + 64 < cLine):OpR X (compareOp .Eq) (rM X.kx oEq):=by
 rintro pins s σ' H x y v u Q I rx ry ⟨α,m,σ,H0,H1,r1,r2,Kc,Rl,h1,h2,ho,fin⟩
 rcases ho with ho | ⟨z,t,rfl,rfl,ho⟩ | ⟨xs,ys,e1,e2,hl,ho⟩
 ·unfold eqD at ho
  split at ho
  ·rename_i d1 d2 e1 e2
   obtain ⟨as,q1⟩:=h1.reads I Rl rx e1 (PyData.hasDict_of_canLay _ (SeqAt.canLay_of_shaped ho.1))
   obtain ⟨bs,q2⟩:=h2.reads I Rl ry e2 (PyData.hasDict_of_canLay _ (SeqAt.canLay_of_shaped ho.2.1))
   exact eq_dataH q1 q2 ho.1 ho.2.1 hu ⟨.bl _,H,I,rfl,fin _ _ H ho.2.2 Rl (je _) (Frm.refl _ _)⟩
  ·exact ho.elim
 ·have e1:=aW (show Den X.kx H (.str z) x from h1)
  have e2:=aW (show Den X.kx H (.str t) y from h2)
  subst e1 e2
  refine Jk pins s σ' H _ _ v u Q I rx ry ⟨rfl,?_⟩
  rw [kf,Bool.beq_eq_decide_eq]
  exact fin _ _ H ho Rl (je _) (Frm.refl _ _)
 ·obtain ⟨l,b,its,its2,rfl,rfl,p1,p2,s1,s2,he⟩:=Ad I Rl h1 h2 rx ry e1 e2 hl hu
  refine SeqAt.eq_listAt p1 p2 (s1.trans s2.symm) (by omega) he ?_
  rw [s1,mN xs ys hl]
  exact ⟨.bl _,H,I,rfl,fin _ _ H ho Rl (je _) (Frm.refl _ _)⟩
theorem jG (hu:X.A.units + 64 < cLine):OpR X (compareOp .NotEq) (rM X.kx oNe):=by
 rintro pins s σ' H x y v u Q I rx ry ⟨α,m,σ,H0,H1,r1,r2,Kc,Rl,h1,h2,ho,fin⟩
 rcases ho with ho | ⟨z,t,rfl,rfl,ho⟩
 ·unfold eqD at ho
  split at ho
  ·rename_i d1 d2 e1 e2
   obtain ⟨as,q1⟩:=h1.reads I Rl rx e1 (PyData.hasDict_of_canLay _ (SeqAt.canLay_of_shaped ho.1))
   obtain ⟨bs,q2⟩:=h2.reads I Rl ry e2 (PyData.hasDict_of_canLay _ (SeqAt.canLay_of_shaped ho.2.1))
   exact ne_dataH q1 q2 ho.1 ho.2.1 hu ⟨.bl _,H,I,rfl,fin _ _ H ho.2.2 Rl (je _) (Frm.refl _ _)⟩
  ·exact ho.elim
 ·have e1:=aW (show Den X.kx H (.str z) x from h1)
  have e2:=aW (show Den X.kx H (.str t) y from h2)
  subst e1 e2
  refine JE pins s σ' H _ _ v u Q I rx ry ⟨rfl,?_⟩
  rw [kf,Bool.beq_eq_decide_eq]
  exact fin _ _ H ho Rl (je _) (Frm.refl _ _)
def jk:R→Bool
 | .imm .none=>true
 | _=>false
def oIsN:WO:=fun r1 r2 _ K=>r2 = .imm .none∧K (.imm (.bool (jk r1)))
def si:WO:=fun r1 r2 _ K=>r2 = .imm .none∧K (.imm (.bool (!jk r1)))
theorem jN {K:Kd} {α : Al} {Hb H:Hp} {r:R} {v:V} (h:RelR K α Hb H r v):decide (v = .non) = jk r:=by
 cases r with
 | obj k=>obtain ⟨a,_,rfl⟩:=h; rfl
 | new ds=>obtain ⟨a,_,rfl,_⟩:=h; rfl
 | «at» k p=>obtain ⟨τ,a,_,_,rfl⟩:=h; rfl
 | newT t=>obtain ⟨τ,a,rfl,_⟩:=h; rfl
 | imm d =>
  cases d with
  | none=>have e:=dW (show Den K H .none v from h); subst e; rfl
  | bool b=>have e:=fz (show Den K H (.bool b) v from h); subst e; rfl
  | int b=>have e:=au (show Den K H (.int b) v from h); subst e; rfl
  | str b=>have e:=aW (show Den K H (.str b) v from h); subst e; rfl
  | list ds=>have h':Den K H (.list ds) v:=h; simp only [Den] at h'; obtain ⟨a,_,rfl,_⟩:=h'; rfl
  | tuple ds=>obtain ⟨a,_,rfl,_⟩:=aY (show Den K H (.tuple ds) v from h); rfl
  | dict es=>have h':Den K H (.dict es) v:=h; simp only [Den] at h'; obtain ⟨a,rfl,_⟩:=h'; rfl
theorem BW:OpR X (compareOp .Is) (rM X.kx oIsN):=by
 rintro pins s σ' H x y v u Q I rx ry ⟨α,m,σ,H0,H1,r1,r2,Kc,Rl,h1,h2,ho,fin⟩
 obtain ⟨e,ho⟩:=ho
 subst e
 have ey:=dW (show Den X.kx H .none y from h2)
 exact DW pins s σ' H _ _ v u Q I rx ry ⟨ey,by rw [jN h1]; exact fin _ _ H ho Rl (je _) (Frm.refl _ _)⟩
theorem jI:OpR X (compareOp .IsNot) (rM X.kx si):=by
 rintro pins s σ' H x y v u Q I rx ry ⟨α,m,σ,H0,H1,r1,r2,Kc,Rl,h1,h2,ho,fin⟩
 obtain ⟨e,ho⟩:=ho
 subst e
 have ey:=dW (show Den X.kx H .none y from h2)
 exact Aq pins s σ' H _ _ v u Q I rx ry ⟨ey,by rw [jN h1]; exact fin _ _ H ho Rl (je _) (Frm.refl _ _)⟩
def uNeg:WU
 | .imm (.int i),_,K=>K (.imm (.int (-i)))
 | _,_,_=>False
theorem gj:UnR X (unaryOp .USub) (uM X.kx uNeg):=by
 rintro pins s σ' H x v Q I rx ⟨α,m,σ,H0,r1,Kc,Rl,h1,ho,fin⟩
 unfold uNeg at ho
 split at ho
 ·rename_i _ i
  have e1:=au (show Den X.kx H (.int i) x from h1)
  subst e1
  exact DA pins s σ' H _ v Q I rx ⟨i,rfl,fin _ _ H ho Rl (cA _) (Frm.refl _ _)⟩
 ·exact ho.elim
def u5 (m:MSt) (K:R→Prop):R→R→Prop
 | .imm (.tuple ds),.imm (.int i)=>∃ d,atI ds i = some d∧K (.imm d)
 | .imm (.str x),.imm (.int i)=>∃ c,x.length≤sizeLine∧atI x.cps.toList i = some c∧K (.imm (.str ⟨#[c]⟩))
 | r,.imm (.int i)=>∃ ds d,lsOf m r = some ds∧atI ds i = some d∧K (.imm d)
 | _,_=>False
def lj:WO:=fun r1 r2 m K=>u5 m K r1 r2
theorem rd {K:Kx} {H:Hp} {ds:List PyData} {xs:List V} {i:Int} {d:PyData} (g:DenAll K H ds xs) (e:atI ds i = some d):∃ v,atI xs i = some v∧Den K H d v:=by
 unfold atI at e ⊢
 rw [←g.length]
 cases q:ixN ds.length i with
 | none=>rw [q] at e; cases e
 | some j =>
  rw [q] at e
  obtain ⟨v,h1,h2⟩:=g.get (show ds[j]? = some d from e)
  exact ⟨v,h1,h2⟩
theorem Ci:IxR X (rM X.kx lj):=by
 rintro value slice pins s σ' H x y v u Q I rx ry ⟨α,m,σ,H0,H1,r1,r2,Kc,Rl,h1,h2,ho,fin⟩ hsub
 have ho':u5 m Kc r1 r2:=ho
 unfold u5 at ho'
 split at ho'
 ·rename_i ds i
  obtain ⟨d,e,k⟩:=ho'
  obtain ⟨a,xs,rfl,f,g⟩:=aY (show Den X.kx H (.tuple ds) x from h1)
  have e2:=au (show Den X.kx H (.int i) y from h2)
  obtain ⟨z,z1,z2⟩:=rd g e
  exact Dk value slice pins s σ' H _ _ v u Q I rx ry ⟨a,xs,i,z,rfl,e2,f,z1,fin _ _ H k Rl (dj z2) (Frm.refl _ _)⟩ hsub
 ·rename_i w i
  obtain ⟨c,hz,e,k⟩:=ho'
  have e1:=aW (show Den X.kx H (.str w) x from h1)
  have e2:=au (show Den X.kx H (.int i) y from h2)
  exact Im value slice pins s σ' H _ _ v u Q I rx ry ⟨w,i,c,e1,e2,hz,e,fin _ _ H k Rl (sk _) (Frm.refl _ _)⟩ hsub
 ·rename_i i _ _
  obtain ⟨ds,d,el,e,k⟩:=ho'
  obtain ⟨a,xs,rfl,f,g⟩:=h1.list Rl el
  have e2:=au (show Den X.kx H (.int i) y from h2)
  obtain ⟨z,z1,z2⟩:=rd g e
  exact t7 value slice pins s σ' H _ _ v u Q I rx ry ⟨a,xs,i,z,rfl,e2,f,z1,fin _ _ H k Rl (dj z2) (Frm.refl _ _)⟩ hsub
 ·exact ho'.elim
theorem JQ {a b:Expr} {wa wb:WE} {pos:Pos} (ha:ME X a wa) (hb:ME X b wb) (hs:iB b:=by intro _ _; rfl):ME X (.Subscript a b pos) (wBin lj wa wb):=(Ir Ci ha hb hs).wk fun _ _ _ h=>lg h
end
def iQ (P:Int→Prop):R→Prop
 | .imm (.int i)=>P i
 | _=>False
def lH (P:Nat→Prop):R→Prop
 | .obj k=>P k
 | _=>False
def on1 (P:R→Prop):List R→Prop
 | [r]=>P r
 | _=>False
section
variable {K:Kx} {α : Al} {Hb H:Hp} {r:R} {v:V}
theorem k8 {P:Int→Prop} (rr:RelR K α Hb H r v) (h:iQ P r):∃ i,r = .imm (.int i)∧v = .int i∧P i:=by
 unfold iQ at h
 split at h
 ·exact ⟨_,rfl,au (K:=K) (H:=H) rr,h⟩
 ·exact h.elim
theorem n5 {P:Nat→Prop} (rr:RelR K α Hb H r v) (h:lH P r):∃ k a,r = .obj k∧α[k]? = some (.L a)∧v = .ref a∧P k:=by
 unfold lH at h
 split at h
 ·obtain ⟨a,e1,e2⟩:=rr
  exact ⟨_,a,rfl,e1,e2,h⟩
 ·exact h.elim
theorem bO {P:R→Prop} {rs:List R} {xs:List V} (rr:RelRs K α Hb H rs xs) (h:on1 P rs):∃ r v,rs = [r]∧xs = [v]∧RelR K α Hb H r v∧P r:=by
 cases rr with
 | nil=>exact h.elim
 | cons h1 t =>
  cases t with
  | nil=>exact ⟨_,_,rfl,rfl,h1,h⟩
  | cons _ _=>exact h.elim
end
section
variable {X:Cx} {o a b c e:Expr} {es:List Expr} {wo wa wb wc we wi:WE} {ws:WA} {pos apos cpos:Pos}
abbrev WM:=R→List R→MSt→(R→MSt→Prop)→Prop
def mM (K:Kx) (ob:WM):V→List V→Hp→VK→Prop:=fun x xs H Q=>∃ α m σ H0 H1 r rs Kc,Rel K α m σ H∧RelR K α H0 H r x∧RelRs K α H1 H rs xs∧ob r rs m Kc∧∀ r m' v H',Kc r m'→m'.np = m.np→Rel K α m' σ H'→RelR K α H H' r v→Frm α H H'→Q v H'
def wML (ob:WM) (wo:WE) (ws:WA):WE:=fun m K=>wo m fun r m1=>(∃ ds,lsOf m1 r = some ds)∧ws m1 fun rs m2=>ob r rs m2 K
theorem Jn {ob:WM} {σ : St} {H:Hp} {Q:VK} (h:tM X.kx (wML ob wo ws) σ H Q):tBM X.K "list" (mM X.kx ob) (tM X.kx wo) (tMA X.kx ws) σ H Q:=by
 obtain ⟨α,m,Kc,Rl,hw,fin⟩:=h
 refine ⟨α,m,_,Rl,hw,fun r m1 v H1 k n1 Rl1 rr F1=>?_⟩
 obtain ⟨⟨ds,el⟩,k⟩:=k
 obtain ⟨a,xs,rfl,f,g⟩:=rr.list Rl1 el
 refine ⟨.inl ⟨rfl,xs,f⟩,α,m1,_,Rl1,k,fun rs m2 vs H2 k2 n2 Rl2 rr2 F2=>?_⟩
 exact ⟨α,m2,σ,H,H1,r,rs,Kc,Rl2,rr.keep Rl Rl1 F2,rr2,k2,fun r m' v H' k n Rl' rr' F=>fin r m' v H' k (n.trans (n2.trans n1)) Rl' (rr'.base Rl2 (F1.trans F2)) ((F1.trans F2).trans F)⟩
theorem JN {name:Str} {id:String} {ob:WM} (slot:Slot "list" name id) (hty:typeOf (.builtin id) = pure (.type "method_descriptor")) (hm:MtM X id (mM X.kx ob)) (ho:ME X o wo) (ha:MA X (e :: es) ws)
  (hbase:attributeBase o name X.env (eval o X.env) = eval o X.env:=by rfl)
  (hfew:((backTo cpos (starEach (e :: es) X.env)).all (fun x=>!x.1) && (backToKw cpos (keywordEach [] X.env)).all (fun x=>x.1.isSome)
   && decide ((e :: es).length + ([]:List Keyword).length + (if ([]:List Keyword).isEmpty then 0 else 1) < 30)) = true:=by rfl)
  (hline:(apos.endLine == cpos.line) = true:=by rfl) (hs:starEach (e :: es) X.env = (false,eval e X.env) :: starEach es X.env:=by first | exact aD rfl | rfl) (hplain:(backTo cpos (starEach es X.env)).any (·.1) = false:=by rfl) :
  ME X (.Call (.Attribute o name apos) (e :: es) [] cpos) (wML ob wo ws):=(AQ PySem.F.plainAttrs_list slot hty hm ho ha hbase hfew hline hs hplain).wk fun _ _ _ h=>Jn h
def tq:WM:=fun r rs m K=>lH (fun k=>on1 (cf fun d=>∃ ds,m.os[k]? = some ds∧ds.length < sizeLine∧K (.imm .none) { m with os:=m.os.set k (ds++[d]) }) rs) r
theorem d0:MtM X "list.append" (mM X.kx tq):=by
 rintro pins s σ' H x xs v us Q I rx rv ⟨α,m,σ,H0,H1,r,rs,Kc,Rl,h1,h2,ho,fin⟩
 obtain ⟨k,a,rfl,ea,rfl,ho⟩:=n5 h1 ho
 obtain ⟨r2,v2,rfl,rfl,h2,ho⟩:=bO h2 ho
 obtain ⟨d,rfl,hd,ds,e1,hz,ho⟩:=cG h2 ho
 obtain ⟨ys,q,g⟩:=Rl.own _ _ ds ea e1
 obtain ⟨R2,F2⟩:=Rl.setO ea q (g.append (DenAll.cons hd DenAll.nil))
 exact ix pins s σ' H _ _ v us Q I rx rv ⟨a,ys,_,rfl,rfl,q,by rw [←g.length]; exact hz,fin _ _ _ _ ho rfl R2 l7 F2⟩
def za (we wo wi:WE):WS:=fun D m=>we m fun rv m1=>cf (fun d=>wo m1 fun ro m2=>wi m2 fun ri m3=>lH (fun k=>iQ (fun z=>∃ ds j,m3.os[k]? = some ds∧ixN ds.length z = some j∧D.nx { m3 with os:=m3.os.set k (ds.set j d) }) ri) ro) rv
theorem zH {b i:Expr} {pos':Pos} (he:ME X e we) (ho:ME X b wo) (hi:ME X i wi) (hs:swapsWithSole [.Subscript b i pos'] e pos.line X.env = pure false:=by rfl) (hw:swappedStores [.Subscript b i pos'] e X.env = pure none:=by rfl)
  (h1:(assignEach [.Subscript b i pos'] X.env).map (·.2) = [assign (.Subscript b i pos') X.env]:=by rfl) (ha:∀ v,assign (.Subscript b i pos') X.env v = (do
   let ov ← holding [v] (eval b X.env)
   let iv ← holding [v,ov] (eval i X.env)
   standAt pos'
   holding [v,ov,iv] (setItem ov iv v)
   release [v,ov,iv] []):=by intro _; rfl):MS X (.Assign [.Subscript b i pos'] e pos) (za we wo wi):=(yW he (FE ho hi xt ha) hs hw h1).wk fun D σ H ⟨α,m,De,Rl,hw,k⟩=>by
 refine ⟨α,m,_,Rl,hw,fun r m1 v H1 q n1 Rl1 rr F1=>?_⟩
 obtain ⟨d,er,hd,q⟩:=cG rr q
 refine ⟨α,m1,_,Rl1,q,fun ro m2 ov H2 q2 n2 Rl2 rr2 F2=>⟨α,m2,_,Rl2,q2,fun ri m3 iv H3 q3 n3 Rl3 rr3 F3=>?_⟩⟩
 obtain ⟨kk,p,rfl,ea,rfl,q3⟩:=n5 rr2 q3
 obtain ⟨z,rfl,rfl,ds,j,e1,e2,q3⟩:=k8 rr3 q3
 obtain ⟨ys,q,g⟩:=Rl3.own _ _ ds ea e1
 have hd3:Den X.kx H3 d v:=(hd.mono (Rl1.pers F2)).mono (Rl2.pers F3)
 obtain ⟨R4,F4⟩:=Rl3.setO ea q (g.set hd3 j)
 exact ⟨p,ys,z,j,rfl,rfl,q,by rw [←g.length]; exact e2,k.nx α _ σ _ q3 (n3.trans (n2.trans n1)) R4 (.of R4 (((F1.trans F2).trans F3).trans F4))⟩
def lenR (m:MSt) (K:R→Prop):R→Prop
 | .imm (.str x)=>x.length≤sizeLine∧K (.imm (.int x.length))
 | .imm (.tuple ds)=>K (.imm (.int ds.length))
 | r=>∃ ds,lsOf m r = some ds∧K (.imm (.int ds.length))
def oLen:WC:=fun rs m K=>on1 (lenR m K) rs
theorem aP:b9 X (.builtin "len") (cM X.kx oLen):=by
 rintro pins s σ' H xs us Q I rv ⟨α,m,σ,H0,rs,Kc,Rl,h,ho,fin⟩
 obtain ⟨r,v,rfl,rfl,h1,ho⟩:=bO h ho
 unfold lenR at ho
 split at ho
 ·rename_i x _
  have e:=aW (show Den X.kx H (.str x) _ from h1)
  subst e
  exact lM pins s σ' H _ us Q I rv ⟨x,rfl,ho.1,fin _ _ H ho.2 Rl (cA _) (Frm.refl _ _)⟩
 ·rename_i ds _
  obtain ⟨a,ys,rfl,f,g⟩:=aY (show Den X.kx H (.tuple ds) _ from h1)
  exact gF pins s σ' H _ us Q I rv ⟨a,ys,rfl,.inr f,by rw [←g.length]; exact fin _ _ H ho Rl (cA _) (Frm.refl _ _)⟩
 ·obtain ⟨ds,el,ho⟩:=ho
  obtain ⟨a,ys,rfl,f,g⟩:=h1.list Rl el
  exact gF pins s σ' H _ us Q I rv ⟨a,ys,rfl,.inl f,by rw [←g.length]; exact fin _ _ H ho Rl (cA _) (Frm.refl _ _)⟩
def intR (K:R→Prop):R→Prop
 | .imm (.int i)=>K (.imm (.int i))
 | .imm (.bool b)=>K (.imm (.int (if b then 1 else 0)))
 | _=>False
def oInt:WC:=fun rs m K=>on1 (intR K) rs
theorem sJ:b9 X (.type "int") (cM X.kx oInt):=by
 rintro pins s σ' H xs us Q I rv ⟨α,m,σ,H0,rs,Kc,Rl,h,ho,fin⟩
 obtain ⟨r,v,rfl,rfl,h1,ho⟩:=bO h ho
 unfold intR at ho
 split at ho
 ·rename_i i _
  have e:=au (show Den X.kx H (.int i) _ from h1)
  subst e
  exact l8 pins s σ' H _ us Q I rv (.inl ⟨i,rfl,fin _ _ H ho Rl (cA _) (Frm.refl _ _)⟩)
 ·rename_i i _
  have e:=fz (show Den X.kx H (.bool i) _ from h1)
  subst e
  exact l8 pins s σ' H _ us Q I rv (.inr ⟨i,rfl,fin _ _ H ho Rl (cA _) (Frm.refl _ _)⟩)
 ·exact ho.elim
def sqOf (m:MSt):R→Option (List PyData)
 | .imm (.tuple ds)=>some ds
 | r=>lsOf m r
theorem RelR.seq {K:Kx} {α : Al} {m:MSt} {σ : St} {H H0:Hp} {r:R} {v:V} (Rl:Rel K α m σ H) (h:RelR K α H0 H r v) {ds:List PyData} (e:sqOf m r = some ds):∃ a xs,v = .ref a∧(SqL K H a xs∨SqT K H a xs)∧DenAll K H ds xs:=by
 unfold sqOf at e
 split at e
 ·cases e
  obtain ⟨a,ys,e,f,g⟩:=aY (show Den K H (.tuple ds) _ from h)
  exact ⟨a,ys,e,.inr f,g⟩
 ·obtain ⟨a,ys,e,f,g⟩:=h.list Rl e
  exact ⟨a,ys,e,.inl f,g⟩
def CU:WC:=fun rs m K=>on1 (fun r=>∃ ds,sqOf m r = some ds∧K (.new ds)) rs
theorem jB:b9 X (.type "list") (cM X.kx CU):=by
 rintro pins s σ' H xs us Q I rv ⟨α,m,σ,H0,rs,Kc,Rl,h,ho,fin⟩
 obtain ⟨r,v,rfl,rfl,h1,ho⟩:=bO h ho
 ·obtain ⟨ds,e,ho⟩:=ho
  obtain ⟨a,ys,rfl,f,g⟩:=h1.seq Rl e
  exact lu pins s σ' H _ us Q I rv ⟨a,ys,rfl,f,fun l hl=>fin _ _ _ ho (Rl.lay hl) ⟨l,ys,rfl,hl,aC,g.mono (aZ (.inl hl))⟩ (bR hl)⟩
def yO:WC:=fun rs m K=>on1 (fun r=>∃ ds,sqOf m r = some ds∧K (.imm (.tuple ds))) rs
theorem bw:b9 X (.type "tuple") (cM X.kx yO):=by
 rintro pins s σ' H xs us Q I rv ⟨α,m,σ,H0,rs,Kc,Rl,h,ho,fin⟩
 obtain ⟨r,v,rfl,rfl,h1,ho⟩:=bO h ho
 ·obtain ⟨ds,e,ho⟩:=ho
  obtain ⟨a,ys,rfl,f,g⟩:=h1.seq Rl e
  refine jX pins s σ' H _ us Q I rv ⟨a,ys,rfl,?_⟩
  rcases f with f | f
  ·exact .inl ⟨f,fun l hl=>fin _ _ _ ho (Rl.lay hl) (dj (cN (SqT.of aC) (g.mono (aZ (.inl hl))))) (bR hl)⟩
  ·exact .inr ⟨f,fin _ _ _ ho Rl (dj (cN f g)) (Frm.refl _ _)⟩
def zM:WC:=fun rs m K=>on1 (fun r=>∃ d,asD m r = some d∧d.showable = true∧d.hasDict = false∧d.shown.length≤sizeLine∧d.depth≤100∧K (.imm (.str d.shown))) rs
theorem fI (hg:X.A.guards = some []) (hu:X.A.units + 200 < cLine):b9 X (.builtin "repr") (cM X.kx zM):=by
 rintro pins s σ' H xs us Q I rv ⟨α,m,σ,H0,rs,Kc,Rl,h,ho,fin⟩
 obtain ⟨r,v,rfl,rfl,h1,ho⟩:=bO h ho
 ·obtain ⟨d,e,hs,hnd,hz,hdp,ho⟩:=ho
  obtain ⟨u,rfl,ru⟩:=rv.one
  obtain ⟨as,q⟩:=h1.reads I Rl ru e hnd
  have done:∀ tk tk2 h',(∀ b o,s.heap.get? b = some o→h'.get? b = some o)→EP X pins σ' Q (.str d.shown tk2) { s with heap:=h',toks:=tk }:=fun tk tk2 h' hk=>⟨.str d.shown,H,I.kept (t':=tk) hk,⟨_,rfl⟩,fin _ _ H ho Rl (sk _) (Frm.refl _ _)⟩
  cases q with
  | none=>exact PySem.P.repr_of_none (done _ _ _ fun _ _ z=>z)
  | bool b =>
   have:=done (s.toks + 1) s.toks s.heap fun _ _ z=>z
   simp only [PyData.shown] at this
   exact PySem.P.repr_of_bool (by cases b <;> exact this)
  | int i t =>
   refine PySem.P.repr_of_int (by simpa [PyData.showable] using hs) ?_
   have:=done (s.toks + 1) s.toks s.heap fun _ _ z=>z
   simp only [PyData.shown] at this
   exact this
  | str x t =>
   have hz':(reprText x).length≤sizeLine:=by simpa only [PyData.shown] using hz
   refine PySem.P.repr_of_str ?_ hz'
   have:=done (s.toks + 1) s.toks s.heap fun _ _ z=>z
   simp only [PyData.shown] at this
   exact this
  | list z1 z2 z3 z4=>exact repr_of_reads' (.list z1 z2 z3 z4) hs (PyData.noDict_hsm hnd) hg (by omega) (fun _ _ z=>z) (fun h' u tk hk=>done tk u h' hk) hz
  | tuple z1 z2 z3 z4=>exact repr_of_reads' (.tuple z1 z2 z3 z4) hs (PyData.noDict_hsm hnd) hg (by omega) (fun _ _ z=>z) (fun h' u tk hk=>done tk u h' hk) hz
  | dict z1 z2 z3 z4 z5=>simp [PyData.hasDict] at hnd
def sM (K:Kx) (o:R→Option Int→Option Int→MSt→(R→Prop)→Prop):V→Option Int→Option Int→Hp→VK→Prop:=fun x lo hi H Q=>∃ α m σ H0 r Kc,Rel K α m σ H∧RelR K α H0 H r x∧o r lo hi m Kc∧∀ r v H',Kc r→Rel K α m σ H'→RelR K α H H' r v→Frm α H H'→Q v H'
def cutD (xs:List PyData) (lo hi:Option Int):List PyData:=(xs.drop (HT.sIx xs.length 0 lo)).take (HT.sIx xs.length xs.length hi - HT.sIx xs.length 0 lo)
theorem qZ {K:Kd} {H:Hp} {ds:List PyData} {xs:List V} (g:DenAll K H ds xs) (lo hi:Option Int):DenAll K H (cutD ds lo hi) (cutV xs lo hi):=by
 unfold cutD cutV
 rw [←g.length]
 exact (g.drop _).take _
def JM:R→Option Int→Option Int→MSt→(R→Prop)→Prop:=fun r lo hi m K=>∃ ds,lsOf m r = some ds∧K (.new (cutD ds lo hi))
theorem yg:SlR X (sM X.kx JM):=by
 intro pins s σ' H x v vl vu lo hi sl Q I rx hs pl pu hq
 obtain ⟨α,m,σ,H0,r,Kc,Rl,h,⟨ds,e,k⟩,fin⟩:=hq
 obtain ⟨a,ys,rfl,f,g⟩:=h.list Rl e
 exact BV pins s σ' H _ v vl vu lo hi sl Q I rx hs pl pu ⟨a,ys,rfl,f,fun p hp=>fin _ _ _ k (Rl.lay hp) ⟨p,_,rfl,hp,aC,(qZ g lo hi).mono (aZ (.inl hp))⟩ (bR hp)⟩
def WO1:=MSt→(Option Int→MSt→Prop)→Prop
def tMO (K:Kx) (w:WO1):TO:=fun σ H Q=>∃ α m Kc,Rel K α m σ H∧w m Kc∧∀ r m' H',Kc r m'→m'.np = m.np→Rel K α m' σ H'→Frm α H H'→Q r H'
def mH:WO1:=fun m K=>K none m
def Cc (w:WE):WO1:=fun m K=>w m fun r m'=>iQ (fun i=>K (some i) m') r
theorem PO.wk {X:Cx} {e:Option Expr} {t t':TO} (h:PO X e t) (k:∀ σ H Q,t' σ H Q→t σ H Q):PO X e t':=fun pins s σ H Q I q=>h pins s σ H Q I (k _ _ _ q)
abbrev MO (X:Cx) (e:Option Expr) (w:WO1):Prop:=PO X e (tMO X.kx w)
theorem Ck:MO X none mH:=(AE (X:=X)).wk fun σ H Q ⟨α,m,Kc,Rl,hw,fin⟩=>fin none m H hw rfl Rl (Frm.refl _ _)
theorem ze (he:ME X e we):MO X (some e) (Cc we):=(zt he).wk fun σ H Q ⟨α,m,Kc,Rl,hw,fin⟩=>by
 refine ⟨α,m,_,Rl,hw,fun r m1 v H1 k n1 Rl1 rr F1=>?_⟩
 obtain ⟨i,rfl,rfl,k⟩:=k8 rr k
 exact ⟨i,rfl,fin _ m1 H1 k n1 Rl1 F1⟩
def wSl (ob:R→Option Int→Option Int→MSt→(R→Prop)→Prop) (we:WE) (wl wh:WO1):WE:=fun m K=>we m fun r m1=>wl m1 fun l m2=>wh m2 fun u m3=>ob r l u m3 fun r'=>K r' m3
theorem xy {lo hi:Option Expr} {wl wh:WO1} {p2:Pos} {ob:R→Option Int→Option Int→MSt→(R→Prop)→Prop} (hr:SlR X (sM X.kx ob)) (he:ME X e we) (hl:MO X lo wl) (hu:MO X hi wh):ME X (.Subscript e (.Slice lo hi none p2) pos) (wSl ob we wl wh):=(wf hr he hl hu).wk fun σ H Q ⟨α,m,Kc,Rl,hw,fin⟩ =>
 ⟨α,m,_,Rl,hw,fun r m1 v H1 k n1 Rl1 rr F1=>⟨α,m1,_,Rl1,k,fun l m2 H2 k2 n2 Rl2 F2=>⟨α,m2,_,Rl2,k2,fun u m3 H3 k3 n3 Rl3 F3=>⟨α,m3,σ,H,r,_,Rl3,(rr.keep Rl Rl1 F2).keep Rl Rl2 F3,k3,fun r' v' H' k4 Rl4 rr4 F4=>fin r' m3 v' H' k4 (n3.trans (n2.trans n1)) Rl4 (rr4.base Rl3 ((F1.trans F2).trans F3)) (((F1.trans F2).trans F3).trans F4)⟩⟩⟩⟩
end
def agV:Nat→List Ag→List (Option R)
 | _,[]=>[]
 | k,.imm d :: as=>some (.imm d) :: agV k as
 | k,.own _ :: as=>some (.obj k) :: agV (k + 1) as
 | k,.tr _ :: as=>some (.at k []) :: agV (k + 1) as
def agO:List Ag→List (List PyData)
 | []=>[]
 | .imm _ :: as=>agO as
 | .own ds :: as=>ds :: agO as
 | .tr t :: as=>[t] :: agO as
def cv (n:Nat) (as:List Ag):MSt:=⟨agV 0 as++List.replicate (n - as.length) none,agO as,(agO as).length⟩
def outR (m:MSt):R→R
 | .imm d=>.imm d
 | .new ds=>.new ds
 | .newT t=>.newT t
 | .obj k=>if k < m.np then .obj k else .new (m.os.getD k [])
 | .at k p=>if k < m.np then .at k p else match p,m.os[k]? with
  | [],some [t]=>.newT t
  | _,_=>.at k p
theorem cr:∀ (k:Nat) (as:List Ag),(agV k as).length = as.length
 | _,[]=>rfl
 | k,.imm d :: as=>by simp [agV,cr k as]
 | k,.own _ :: as=>by simp [agV,cr (k + 1) as]
 | k,.tr _ :: as=>by simp [agV,cr (k + 1) as]
section
variable {K:Kx} {H:Hp}
theorem RelAs.facts {K:Kd}:∀ {as:List Ag} {vs:List V} {β : Al} {pre:Al},RelAs K H as vs β →
  (agO as).length = β.length∧(∀ (k:Nat) (ao:Ao) (ds:List PyData),β[k]? = some ao→(agO as)[k]? = some ds→OwnAt K H ao ds) ∧
   ∀ (i:Nat) (r:R),(agV pre.length as)[i]? = some (some r)→∃ v,vs[i]? = some v∧RelS K (pre++β) H r v
 | _,_,_,_,.nil=>⟨rfl,fun k a ds h=>by simp at h,fun i r h=>by simp [agV] at h⟩
 | _,_,β,pre,.imm (as:=as) hd t=>by
  obtain ⟨h1,h2,h3⟩:=t.facts (pre:=pre)
  refine ⟨h1,h2,fun i r h=>?_⟩
  cases i with
  | zero=>simp [agV] at h; subst h; exact ⟨_,rfl,hd⟩
  | succ i =>
   obtain ⟨v,e,q⟩:=h3 i r (by simpa [agV] using h)
   exact ⟨v,by simpa using e,q⟩
 | _,_,_,pre,.own (a:=a) (β:=β) ha t=>by
  obtain ⟨h1,h2,h3⟩:=t.facts (pre:=pre++[.L a])
  refine ⟨by simp [agO,h1],fun k b ds z1 z2=>?_,fun i r h=>?_⟩
  ·cases k with
   | zero=>simp [agO] at z1 z2; subst z1; subst z2; exact ha
   | succ k=>exact h2 k b ds (by simpa using z1) (by simpa [agO] using z2)
  ·cases i with
   | zero=>simp [agV] at h; subst h; exact ⟨_,rfl,a,by simp,rfl⟩
   | succ i =>
    obtain ⟨v,e,q⟩:=h3 i r (by simpa [agV] using h)
    refine ⟨v,by simpa using e,?_⟩
    rw [List.append_assoc] at q
    exact q
 | _,_,_,pre,.tr (a:=a) (τ:=τ) (β:=β) ha el t=>by
  obtain ⟨h1,h2,h3⟩:=t.facts (pre:=pre++[.T τ])
  refine ⟨by simp [agO,h1],fun k b ds z1 z2=>?_,fun i r h=>?_⟩
  ·cases k with
   | zero=>simp [agO] at z1 z2; subst z1; subst z2; exact ha
   | succ k=>exact h2 k b ds (by simpa using z1) (by simpa [agO] using z2)
  ·cases i with
   | zero=>simp [agV] at h; subst h; exact ⟨_,rfl,τ,a,by simp,el,rfl⟩
   | succ i =>
    obtain ⟨v,e,q⟩:=h3 i r (by simpa [agV] using h)
    refine ⟨v,by simpa using e,?_⟩
    rw [List.append_assoc] at q
    exact q
theorem md {n nN:Nat} {N:List Str} {vs:List V} {as:List Ag} {β : Al} (hN:N.length = nN) (hle:n≤nN) (hl:as.length = n) (nd:(ads β).Nodup) (ra:RelAs K H as vs β) (hb:K.eb.np≤(agO as).length) (hx:Ext K.eb.np K.eb.be K.eb.H β H):Rel K β (cv nN as) (start N vs) H:=by
 obtain ⟨h1,h2,h3⟩:=ra.facts (pre:=[])
 have hvl:as.length = vs.length:=ra.length
 refine ⟨nd,by rw [←h1]; rfl,h2,?_,fun i r e=>?_,by rw [←h1]; exact Nat.le_refl _,hb,hx⟩
 ·unfold start cv
  simp only [List.length_append,List.length_map,List.length_replicate,cr]
  omega
 ·have e':(agV 0 as++List.replicate (nN - as.length) none)[i]? = some (some r):=e
  by_cases hi:i < as.length
  ·rw [List.getElem?_append_left (by rw [cr]; exact hi)] at e'
   obtain ⟨v,ev,q⟩:=h3 i r e'
   refine ⟨v,?_,by simpa using q⟩
   unfold start
   rw [List.getElem?_append_left (by rw [List.length_map]; omega),List.getElem?_map,ev]; rfl
  ·rw [List.getElem?_append_right (by rw [cr]; omega),List.getElem?_replicate] at e'
   split at e' <;> cases e'
theorem k6 {as:List Ag} {vs:List V} {β α':Al} {m':MSt} {σ':St} {H':Hp} (ra:RelAs K H as vs β) (hn:m'.np = (agO as).length) (R':Rel K α' m' σ' H') (x:Ext (agO as).length β H α' H'):s9 K H' β (m'.os.take m'.np)∧Frm β H H'∧β = α'.take (agO as).length:=by
 obtain ⟨h1,h2,h3⟩:=ra.facts (pre:=[])
 have e1 : α'.take (agO as).length = β:=by rw [x.pre,h1,List.take_length]
 refine ⟨⟨?_,fun j a ds z1 z2=>?_⟩,x.frm,e1.symm⟩
 ·have:=R'.npl
  rw [R'.len] at this
  rw [List.length_take,hn,←h1]
  omega
 ·rw [←e1,List.getElem?_take] at z1
  rw [hn,List.getElem?_take] at z2
  by_cases hj:j < (agO as).length
  ·rw [if_pos hj] at z1 z2
   exact R'.own j a ds z1 z2
  ·rw [if_neg hj] at z1; cases z1
theorem AF {as:List Ag} {β α':Al} {m':MSt} {σ':St} {H':Hp} {r:R} {v:V} (hn:m'.np = (agO as).length) (R':Rel K α' m' σ' H') (x:Ext (agO as).length β H α' H') (eβ : β = α'.take (agO as).length) (rr:RelR K α' H H' r v)
  (ok:∀ k p,r = .at k p→k < m'.np∨(p = []∧∃ t,m'.os[k]? = some [t])):RelR K β H H' (outR m' r) v:=by
 have out:∀ {k:Nat} {ao:Ao},¬ k < m'.np→α'[k]? = some ao→∀ b∈ao.ads,H b = none:=fun {k ao} hk ea b hb=>by
  rcases x.new b (jJ ea hb) with z | z
  ·exfalso
   rw [eβ] at z
   obtain ⟨j,ao',ej,hm⟩:=ii z
   rw [List.getElem?_take] at ej
   by_cases hj:j < (agO as).length
   ·rw [if_pos hj] at ej
    exact fe R'.nd ea ej (by omega) hb hm
   ·rw [if_neg hj] at ej; cases ej
  ·exact z
 have inb:∀ {k:Nat} {ao:Ao},k < m'.np→α'[k]? = some ao→β[k]? = some ao:=fun {k ao} hk ea=>by
  rw [eβ,List.getElem?_take,if_pos (by rw [←hn]; exact hk)]
  exact ea
 cases r with
 | imm d=>exact rr
 | new ds=>exact rr
 | newT t=>exact rr
 | obj k =>
  obtain ⟨a,ea,rfl⟩:=rr
  unfold outR
  by_cases hk:k < m'.np
  ·simp only [hk,if_true]
   exact ⟨a,inb hk ea,rfl⟩
  ·simp only [hk,if_false]
   have hk2:k < m'.os.length:=by rw [←R'.len]; exact (List.getElem?_eq_some_iff.mp ea).1
   have e3:m'.os[k]? = some (m'.os.getD k []):=by rw [List.getD_eq_getElem?_getD,List.getElem?_eq_getElem hk2]; rfl
   obtain ⟨xs,y1,y2⟩:=R'.own k _ _ ea e3
   exact ⟨a,xs,rfl,out hk ea a (List.mem_singleton.mpr rfl),y1,y2⟩
 | «at» k p =>
  obtain ⟨τ,a,ea,el,rfl⟩:=rr
  unfold outR
  by_cases hk:k < m'.np
  ·simp only [hk,if_true]
   exact ⟨τ,a,inb hk ea,el,rfl⟩
  ·simp only [hk,if_false]
   rcases ok k p rfl with z | ⟨rfl,t,et⟩
   ·exact (hk z).elim
   ·rw [et]
    have g:=R'.own k _ _ ea et
    exact ⟨τ,a,rfl,el,((dI α').mp R'.nd).1 _ (List.mem_of_getElem? ea),out hk ea,g⟩
def okR (m:MSt):R→Prop
 | .at k p=>k < m.np∨(p = []∧∃ t,m.os[k]? = some [t])
 | _=>True
theorem okR.at {m:MSt} {r:R} (h:okR m r):∀ k p,r = .at k p→k < m.np∨(p = []∧∃ t,m.os[k]? = some [t]):=fun k p e=>by subst e; exact h
def retK (Kc:R→List (List PyData)→Prop) (m:MSt):R→Prop
 | .at k p=>okR m (.at k p)∧Kc (outR m (.at k p)) (m.os.take m.np)
 | .imm d=>Kc (.imm d) (m.os.take m.np)
 | .new ds=>Kc (.new ds) (m.os.take m.np)
 | .obj k=>Kc (outR m (.obj k)) (m.os.take m.np)
 | .newT t=>Kc (.newT t) (m.os.take m.np)
theorem retK.ok {Kc:R→List (List PyData)→Prop} {m:MSt} {r:R} (h:retK Kc m r):okR m r∧Kc (outR m r) (m.os.take m.np):=by
 cases r with
 | «at» k p=>exact h
 | imm d=>exact ⟨trivial,h⟩
 | new ds=>exact ⟨trivial,h⟩
 | obj k=>exact ⟨trivial,h⟩
 | newT t=>exact ⟨trivial,h⟩
theorem fn_m {n nN:Nat} {N:List Str} {sp:SpM} {w:WS} {vs:List V} {Q:VK} {E:XK} (he:K.eb = ⟨0,[],fun _=>none⟩) (h:spOf K n sp vs H Q E) (hN:N.length = nN) (hle:n≤nN)
  (hw:∀ as Kc,as.length = n→sp as Kc→w { nx:=fun m=>Kc (.imm .none) (m.os.take m.np),rt:=fun r m=>retK Kc m r } (cv nN as)):tMS K w { nx:=fun _ H'=>Q .non H',rt:=Q } (start N vs) H:=by
 obtain ⟨as,β,Kc,hl,nd,ra,hsp,fin⟩:=h
 have R0:Rel K β (cv nN as) (start N vs) H:=md hN hle hl nd ra (by rw [he]; exact Nat.zero_le _) (by rw [he]; exact ⟨rfl,fun _ _ z=>(by cases z),fun _ _=>.inr rfl,fun a ha=>(by cases ha)⟩)
 refine ⟨β,cv nN as,_,R0,hw as Kc hl hsp,⟨fun α' m' σ' H' q hn R' x=>?_,fun r α' m' σ' v H' q hn R' rr x=>?_,fun _ _ _ _ z=>z.elim,fun _ _ _ _ z=>z.elim⟩⟩
 ·obtain ⟨O,F,_⟩:=k6 ra hn R' x
  exact fin _ _ .non H' q O l7 F
 ·obtain ⟨O,F,eβ⟩:=k6 ra hn R' x
  have q':=retK.ok q
  exact fin _ _ v H' q'.2 O (AF hn R' x eβ rr q'.1.at) F
end
structure FnM (P:Program) (w:World) (K:PySem.W.Frag) (mg:Str→Option Value) (base:Heap) (x:Str) (k n:Nat) (sp:SpM):Prop where
 ex:∃ (f:Addr) (fd:FuncData) (ps:List Str),FnOk P w K mg base CX0 k f fd ps (spOf ⟨K,w⟩ n sp)∧mg x = some (.ref f)∧PySem.W.keepIn K (.ref f) = true∧Binds K fd ps []
 ar:∀ as Kc,sp as Kc→as.length = n
structure DefM (K:PySem.W.Frag) (mg:Str→Option Value) (x:Str) (st:Stmt) (ps:List Str):Prop where
 ex:∃ (f:Addr) (fd:FuncData),Fun K x x st f fd∧mg x = some (.ref f)∧Binds K fd ps []
theorem Km {P:Program} {w:World} {K:PySem.W.Frag} {mg:Str→Option Value} {base:Heap} {x:Str} {st:Stmt} {N ps:List Str} {n nN k:Nat} {sp:SpM} (D:DefM K mg x st ps) (S:ak N ps (ab st)) (hn:ps.length = n) (hN:N.length = nN) (hle:n≤nN) (ar:∀ as Kc,sp as Kc→as.length = n)
  (hbody:∀ (cdv:Value) (A:Around) (outer:List Env) (s:Shared) (H:Hp) (E:XK) (f:Addr),Room k (A.deeper (envOfC x (ab st) s.heap.objs.size f cdv)) →
   ∃ ww,MSs (cxOf CX0 P w K mg base N x (ab st) f cdv A outer s H E).nox (bh st) ww∧∀ as Kc,as.length = n→sp as Kc→ww { nx:=fun m=>Kc (.imm .none) (m.os.take m.np),rt:=fun r m=>retK Kc m r } (cv nN as)) :
  FnM P w K mg base x (k + 1) n sp:=by
 obtain ⟨f,fd,F,hm,hb⟩:=D.ex
 refine ⟨⟨f,fd,ps,F.ok S (fun vs H Q E h=>by rw [hn]; exact h.len) (fun cdv A outer s H vs Q E hr h=>?_),hm,F.kp,hb⟩,ar⟩
 obtain ⟨ww,h1,h2⟩:=hbody cdv A outer s H E f hr
 exact ⟨_,h1,fn_m (K:=(cxOf CX0 P w K mg base N x (ab st) f cdv A outer s H E).nox.kx) rfl h hN hle h2⟩
section
variable {X:Cx} {a:Expr} {es:List Expr} {ws:WA} {pos p:Pos} {k n:Nat} {sp:SpM} {x:Str}
theorem xP (F:FnM X.prog X.w X.K X.mg X.base x k n sp) (hr:Room k X.A) (ha:MA X (a :: es) ws) (hg:Gl X x:=by rfl) (hdb:(x == ("__debug__" : Str)) = false:=by decide) (he:starEach (a :: es) X.env = (false,eval a X.env) :: starEach es X.env:=by first | exact aD rfl | rfl) (hpl:(backTo pos (starEach es X.env)).any (·.1) = false:=by rfl) :
  ME X (.Call (.Name x p) (a :: es) [] pos) (va sp ws):=by
 obtain ⟨f,fd,ps,G,hm,hk,hb⟩:=F.ex
 exact zh (E:=E0) G hr hg hm hk hb wm F.ar ha hdb he hpl
theorem Room.u200 {k:Nat} {A:Around} (r:Room k A):A.units + 200 < cLine:=by have:=r.un; omega
theorem b5:bootBuiltins "len" = some (.builtin "len"):=by decide +kernel
theorem FC:bootBuiltins "sum" = some (.builtin "sum"):=by decide +kernel
theorem jF:bootBuiltins "max" = some (.builtin "max"):=by decide +kernel
theorem mF:bootBuiltins "repr" = some (.builtin "repr"):=by decide +kernel
theorem kJ:bootBuiltins "isinstance" = some (.builtin "isinstance"):=by decide +kernel
theorem um:bootBuiltins "list" = some (.type "list"):=by decide +kernel
theorem b0:bootBuiltins "tuple" = some (.type "tuple"):=by decide +kernel
theorem qR:bootBuiltins "int" = some (.type "int"):=by decide +kernel
theorem sf:bootBuiltins "str" = some (.type "str"):=by decide +kernel
theorem Bu:bootBuiltins "bool" = some (.type "bool"):=by decide +kernel
theorem lZ:bootBuiltins "enumerate" = some (.type "enumerate"):=by decide +kernel
end
section
variable {m:MSt} {K:R→MSt→Prop} {Kb:Bool→MSt→Prop} {Ka:List R→MSt→Prop} {Kr:R→Prop} {D:fM} {wa wb wc we wo wi:WE} {ws:WA} {wt wu:WT} {w u:WS} {o:WO} {d:PyData} {r r1 r2:R} {i j:Int} {k:Nat}
theorem qF (h:w { D with nx:=fun m'=>u D m' } m):wSeq w u D m:=h
theorem Fq (h:D.nx m):xO D m:=h
theorem JP (h:wa m fun r1 m1=>wb m1 fun r2 m2=>o r1 r2 m2 fun r=>K r m2):wBin o wa wb m K:=h
theorem q9 {n:Nat} (e:m.vs[n]? = some (some r)) (h:K r m):wVar n m K:=⟨r,e,h⟩
theorem x_c (h:K (.imm d) m):wC d m K:=h
theorem JI (h:we m fun r m'=>D.rt r m'):wRet we D m:=h
theorem GA (h:we m fun _ m'=>D.nx m'):CG we D m:=h
theorem Kq (h:wt m fun c m'=>if c = true then w D m' else u D m'):wIfS wt w u D m:=h
theorem ny (h:wt m fun c m'=>if c = true then wa m' K else wb m' K):wIfE wt wa wb m K:=h
theorem Eh (h:we m fun r m'=>onBl (fun k=>Kb k m') r):qc we m Kb:=h
theorem Kf (h:wt m fun c m1=>if c = true then wu m1 Kb else Kb false m1):wAnd wt wu m Kb:=h
theorem x_or (h:wt m fun c m1=>if c = true then Kb true m1 else wu m1 Kb):wOr wt wu m Kb:=h
theorem IY (h:wt m fun c m1=>Kb (!c) m1):wNot wt m Kb:=h
theorem Fi (h:wa m fun r m1=>onBl (fun c=>if c = true then wb m1 K else K (.imm (.bool false)) m1) r):B0 wa wb m K:=h
theorem IK (h:wa m fun r m1=>onBl (fun c=>K (.imm (.bool (!c))) m1) r):zf wa m K:=h
theorem ol {P:Bool→Prop} {b:Bool} (h:P b):onBl P (.imm (.bool b)):=h
theorem z9 {P:Int→Prop} (h:P i):iQ P (.imm (.int i)):=h
theorem BP {P:Nat→Prop} (h:P k):lH P (.obj k):=h
theorem AC {P:PyData→Prop} (h:P d):cf P (.imm d):=h
theorem Ju {P:R→Prop} (h:P r):on1 P [r]:=h
theorem b6 {A B:Prop} (h:A):if true = true then A else B:=by rw [if_pos rfl]; exact h
theorem bP {A B:Prop} (h:B):if false = true then A else B:=by rw [if_neg Bool.false_ne_true]; exact h
theorem aA {c A B:Prop} [Decidable c] (h1:c→A) (h2:¬ c→B):if decide c = true then A else B:=by
 by_cases h:c
 ·rw [if_pos (decide_eq_true h)]; exact h1 h
 ·rw [if_neg (by rw [decide_eq_false h]; exact Bool.false_ne_true)]; exact h2 h
theorem x_un {ob:WU} (h:wa m fun r1 m1=>ob r1 m1 fun r=>K r m1):wUn ob wa m K:=h
theorem Kz (h:Kr (.imm (.int (-i)))):uNeg (.imm (.int i)) m Kr:=h
theorem zu {o':WO} (h:wa m fun r1 m1=>wb m1 fun r2 m2=>o r1 r2 m2 (onBl fun k=>if k = true then wc m2 fun r3 m3=>o' r2 r3 m3 fun r=>K r m3 else K (.imm (.bool false)) m2)):o9 o o' wa wb wc m K:=h
theorem J5 (h:we m fun r m'=>match r with | .imm d=>K (.imm d) m' | .new ds=>K (.imm (.list ds)) m' | _=>False):wImm we m K:=h
theorem Jw (h:Ka [] m):wNil m Ka:=h
theorem Ie (h:we m fun r m1=>ws m1 fun rs m2=>Ka (r :: rs) m2):zj we ws m Ka:=h
theorem Jy (h:ws m fun rs m'=>u3 (fun ds=>K (.imm (.tuple ds)) m') (dq rs)):wTup ws m K:=h
theorem Jd (h:ws m fun rs m'=>u3 (fun ds=>K (.new ds) m') (dq rs)):wLst ws m K:=h
theorem JT {rs:List R} {ds:List PyData} {P:List PyData→Prop} (e:dq rs = some ds) (hz:ds.length≤sizeLine) (h:P ds):u3 P (dq rs):=by rw [e]; exact ⟨hz,h⟩
theorem x_cb {oc:WC} (h:ws m fun rs m1=>oc rs m1 fun r=>K r m1):wCB oc ws m K:=h
theorem Gj {sp:SpM} (h:ws m fun rs m1=>match d4 m1 rs with | some (as,ks)=>ks.Nodup∧sp as fun r outs=>K (mapR ks r) { m1 with os:=bC m1.os ks outs } | none=>False):va sp ws m K:=h
theorem Jp {rs:List R} {as:List Ag} {ks:List Nat} {P:List Ag→List Nat→Prop} (e:d4 m rs = some (as,ks)) (hn:ks.Nodup) (h:P as ks):match d4 m rs with | some (as,ks)=>ks.Nodup∧P as ks | none=>False:=by rw [e]; exact ⟨hn,h⟩
theorem Gc {n:Nat} (h:we m fun r m'=>kr n D.nx m' r):wSet n we D m:=h
theorem ky {n:Nat} {P:MSt→Prop} (h:P (m.setV n (.imm d))):kr n P m (.imm d):=.inl h
theorem cu {n:Nat} {P:MSt→Prop} {ds:List PyData} (h:P { vs:=m.vs.set n (some (.obj m.os.length)),os:=m.os++[ds],np:=m.np }):kr n P m (.new ds):=.inl (.inl h)
theorem Jf {g:WG} (h:we m fun r m'=>cf (fun d=>g d m' D.nx) r):wAsg we g D m:=h
theorem J7 {n n':Nat} (h:ws m fun rs m'=>match rs with | [.imm d1,.imm d2]=>D.nx ((m'.setV n (.imm d1)).setV n' (.imm d2)) | _=>False):wPar n n' ws D m:=h
theorem IC (h:we m fun rv m1=>cf (fun d=>wo m1 fun ro m2=>wi m2 fun ri m3=>lH (fun k=>iQ (fun z=>∃ ds j,m3.os[k]? = some ds∧ixN ds.length z = some j∧D.nx { m3 with os:=m3.os.set k (ds.set j d) }) ri) ro) rv):za we wo wi D m:=h
theorem sr {k:Nat} {z:Int} {ds:List PyData} {n:Nat} {P:List PyData→Nat→Prop} (e1:m.os[k]? = some ds) (e2:ixN ds.length z = some n) (h:P ds n):∃ ds j,m.os[k]? = some ds∧ixN ds.length z = some j∧P ds j:=⟨ds,n,e1,e2,h⟩
theorem x_ml {ob:WM} (h:wo m fun r m1=>(∃ ds,lsOf m1 r = some ds)∧ws m1 fun rs m2=>ob r rs m2 K):wML ob wo ws m K:=h
theorem x_ls {ds:List PyData} {P:Prop} (e:lsOf m r = some ds) (h:P):(∃ ds,lsOf m r = some ds)∧P:=⟨⟨ds,e⟩,h⟩
theorem x8 {ds:List PyData} (e:m.os[k]? = some ds) (hz:ds.length < sizeLine) (h:K (.imm .none) { m with os:=m.os.set k (ds++[d]) }):tq (.obj k) [.imm d] m K:=⟨ds,e,hz,h⟩
theorem Fg (h:Kr (.imm (.int (i + j)))):oAdd (.imm (.int i)) (.imm (.int j)) m Kr:=h
theorem yE {x y:Str} (hz:x.length + y.length≤sizeLine) (h:Kr (.imm (.str (x++y)))):oAdd (.imm (.str x)) (.imm (.str y)) m Kr:=⟨hz,h⟩
theorem mf {a b:List PyData} (hz:a.length + b.length≤sizeLine) (h:Kr (.imm (.tuple (a++b)))):oAdd (.imm (.tuple a)) (.imm (.tuple b)) m Kr:=⟨hz,h⟩
theorem CI {a b:List PyData} (hz:a.length + b.length≤sizeLine) (h:Kr (.new (a++b))):oAdd (.new a) (.new b) m Kr:=⟨a,b,rfl,rfl,hz,h⟩
theorem IE (h:Kr (.imm (.int (i - j)))):oSub (.imm (.int i)) (.imm (.int j)) m Kr:=⟨trivial,h⟩
theorem IO (hc:CFd i j) (h:Kr (.imm (.int (i / j)))):F9 (.imm (.int i)) (.imm (.int j)) m Kr:=⟨hc,h⟩
theorem vD (hc : 0 < j) (h:Kr (.imm (.int (i % j)))):oMod (.imm (.int i)) (.imm (.int j)) m Kr:=⟨hc,h⟩
theorem Jj (hc:CPow i j) (h:Kr (.imm (.int (i ^ j.toNat)))):oPow (.imm (.int i)) (.imm (.int j)) m Kr:=⟨hc,h⟩
theorem x_lt (h:Kr (.imm (.bool (decide (i < j))))):oLt (.imm (.int i)) (.imm (.int j)) m Kr:=h
theorem x_le (h:Kr (.imm (.bool (decide (i≤j))))):oLe (.imm (.int i)) (.imm (.int j)) m Kr:=h
theorem x_gt (h:Kr (.imm (.bool (decide (j < i))))):oGt (.imm (.int i)) (.imm (.int j)) m Kr:=h
theorem x_ge (h:Kr (.imm (.bool (decide (j≤i))))):oGe (.imm (.int i)) (.imm (.int j)) m Kr:=h
theorem x_eq {d1 d2:PyData} (e1:asD m r1 = some d1) (e2:asD m r2 = some d2) (s1:SeqAt.shaped d1 = true) (s2:SeqAt.shaped d2 = true) (h:Kr (.imm (.bool (PyData.eqv d1 d2)))):oEq r1 r2 m Kr:=by refine Or.inl ?_; unfold eqD; rw [e1,e2]; exact ⟨s1,s2,h⟩
theorem x_ne {d1 d2:PyData} (e1:asD m r1 = some d1) (e2:asD m r2 = some d2) (s1:SeqAt.shaped d1 = true) (s2:SeqAt.shaped d2 = true) (h:Kr (.imm (.bool (!PyData.eqv d1 d2)))):oNe r1 r2 m Kr:=by refine Or.inl ?_; unfold eqD; rw [e1,e2]; exact ⟨s1,s2,h⟩
theorem KQ (h:Kr (.imm (.bool (decide (i = j))))):oEq (.imm (.int i)) (.imm (.int j)) m Kr:=x_eq rfl rfl rfl rfl (by simp only [PyData.eqv]; rw [Bool.beq_eq_decide_eq]; exact h)
theorem J1 (h:Kr (.imm (.bool (decide (i≠j))))):oNe (.imm (.int i)) (.imm (.int j)) m Kr:=x_ne rfl rfl rfl rfl (by simp only [PyData.eqv]; rw [Bool.beq_eq_decide_eq,←decide_not]; exact h)
theorem Ki {x y:Str} (h:Kr (.imm (.bool (decide (x = y))))):oEq (.imm (.str x)) (.imm (.str y)) m Kr:=Or.inr (Or.inl ⟨x,y,rfl,rfl,h⟩)
theorem vG {x y:Str} (h:Kr (.imm (.bool (!decide (x = y))))):oNe (.imm (.str x)) (.imm (.str y)) m Kr:=Or.inr ⟨x,y,rfl,rfl,h⟩
theorem Jm (h:Kr (.imm (.bool (jk r)))):oIsN r (.imm .none) m Kr:=⟨rfl,h⟩
theorem wY (h:Kr (.imm (.bool (!jk r)))):si r (.imm .none) m Kr:=⟨rfl,h⟩
theorem bM {ds:List PyData} (e:atI ds i = some d) (h:Kr (.imm d)):lj (.imm (.tuple ds)) (.imm (.int i)) m Kr:=⟨d,e,h⟩
theorem mz {ds:List PyData} (e:atI ds i = some d) (h:Kr (.imm d)):lj (.imm (.list ds)) (.imm (.int i)) m Kr:=⟨ds,d,rfl,e,h⟩
theorem dE {ds:List PyData} (e1:m.os[k]? = some ds) (e:atI ds i = some d) (h:Kr (.imm d)):lj (.obj k) (.imm (.int i)) m Kr:=⟨ds,d,e1,e,h⟩
theorem j6 {ds:List PyData} (e:atI ds i = some d) (h:Kr (.imm d)):lj (.new ds) (.imm (.int i)) m Kr:=⟨ds,d,rfl,e,h⟩
theorem Jh {rs:List R} (h:on1 (lenR m Kr) rs):oLen rs m Kr:=h
theorem Iz {ds:List PyData} (h:Kr (.imm (.int ds.length))):lenR m Kr (.imm (.tuple ds)):=h
theorem Gm {ds:List PyData} (h:Kr (.imm (.int ds.length))):lenR m Kr (.imm (.list ds)):=⟨ds,rfl,h⟩
theorem IP {ds:List PyData} (h:Kr (.imm (.int ds.length))):lenR m Kr (.new ds):=⟨ds,rfl,h⟩
theorem Gi {b:Bool} (h:Kr (.imm (.int (if b then 1 else 0)))):oInt [.imm (.bool b)] m Kr:=h
theorem Gz {ds:List PyData} (e:sqOf m r = some ds) (h:Kr (.new ds)):CU [r] m Kr:=⟨ds,e,h⟩
theorem u9 {ds:List PyData} (e:sqOf m r = some ds) (h:Kr (.imm (.tuple ds))):yO [r] m Kr:=⟨ds,e,h⟩
theorem DK (e:asD m r = some d) (h1:d.showable = true) (h2:d.hasDict = false) (h3:d.shown.length≤sizeLine) (h4:d.depth≤100) (h:Kr (.imm (.str d.shown))):zM [r] m Kr:=⟨d,e,h1,h2,h3,h4,h⟩
theorem x_sl {ob:R→Option Int→Option Int→MSt→(R→Prop)→Prop} {wl wh:WO1} (h:we m fun r m1=>wl m1 fun l m2=>wh m2 fun u m3=>ob r l u m3 fun r'=>K r' m3):wSl ob we wl wh m K:=h
theorem yb {Ko:Option Int→MSt→Prop} (h:Ko none m):mH m Ko:=h
theorem Dn {Ko:Option Int→MSt→Prop} (h:we m fun r m'=>iQ (fun i=>Ko (some i) m') r):Cc we m Ko:=h
theorem x_gM {n:Nat} {P:MSt→Prop} (h:P (m.setV n (.imm d))):gM n d m P:=h
theorem DJ {P:MSt→Prop} (h:P m):zn [] m P:=⟨rfl,h⟩
theorem B6 {g:WG} {gs:WGs} {ds:List PyData} {P:MSt→Prop} (h:g d m fun m'=>gs ds m' P):tU g gs (d :: ds) m P:=h
theorem C7 {n:Nat} {gs:WGs} {ds:List PyData} {P:MSt→Prop} (e:ds.length = n) (h:gs ds m P):Cr n gs (.tuple ds) m P:=⟨e,h⟩
theorem KJ {wi:WI} {g:WG} (h:wi m fun s m1=>la s g w D m1):wFor wi g w D m:=h
theorem IB {Ks:Src→MSt→Prop} (h:we m fun r m'=>srcR m' Ks r):Bz we m Ks:=h
theorem DF {Ks:Src→MSt→Prop} {ds:List PyData} (h:Ks ⟨ds,none⟩ m):srcR m Ks (.imm (.list ds)):=h
theorem yn {Ks:Src→MSt→Prop} {ds:List PyData} (h:Ks ⟨ds,none⟩ m):srcR m Ks (.imm (.tuple ds)):=h
theorem GF {Ks:Src→MSt→Prop} {ds:List PyData} (e:m.os[k]? = some ds) (h:Ks ⟨ds,some k⟩ m):srcR m Ks (.obj k):=⟨ds,e,h⟩
theorem E8 {Ks:Src→MSt→Prop} (h:ws m fun rs m'=>match rs with | [.imm (.int j)]=>-(2 ^ 62)≤j∧j < 2 ^ 62∧Ks ⟨ci 0 j.toNat,none⟩ m' | _=>False):t9 ws m Ks:=h
theorem JO (h:wt m fun b m'=>if b = true then w D m' else D.nx m'):wIfT wt w D m:=h
theorem vk (h:Kb true m):mw m Kb:=h
theorem Fx {q:Nat} (h:we m fun r m'=>cf (fun d=>∃ ds,m'.os[q]? = some ds∧ds.length < sizeLine∧D.nx { m' with os:=m'.os.set q (ds++[d]) }) r):yf q we D m:=h
end
theorem ag {w:WS} {D:fM} {m:MSt} (m':MSt) (e:m = m') (h:w D m'):w D m:=e▸h
theorem JW {i j:Int} (h:(-18446744073709551616 < i∧i < 18446744073709551616)∨(-18446744073709551616 < j∧j < 18446744073709551616)):IntMulOk i j:=CMul.ok (by unfold CMul; exact h)
theorem cfd {i j:Int} (h0 : 0 < j) (h1:j < 1152921504606846976):CFd i j:=⟨h0,by
 have:j.natAbs < 2 ^ 60:=by omega
 have:=(Nat.log2_lt (by omega)).mpr this
 omega⟩
theorem iK:∀ ns:List Int,PyData.canLayAll0 (ns.map .int) = true
 | []=>rfl
 | n :: ns=>by simp only [List.map_cons,PyData.canLayAll0,PyData.canLay0,iK ns,Bool.and_self]
theorem jH:∀ ns:List Int,PyData.depthAll (ns.map .int)≤1
 | []=>Nat.zero_le 1
 | n :: ns=>by
  have:=jH ns
  rw [List.map_cons]
  simp only [PyData.depthAll,PyData.depth]
  omega
theorem mq (ns:List Int):SeqAt.shaped (.list (ns.map .int)) = true:=by
 have h:=jH ns
 have h2:(PyData.list (ns.map .int)).depth≤64:=by simp only [PyData.depth]; omega
 have h3:(PyData.list (ns.map .int)).canLay0 = true:=by simp only [PyData.canLay0,iK]
 unfold SeqAt.shaped
 rw [h3,decide_eq_true h2]; rfl
theorem Dr {α : Type} {xs:List α} {i:Int} (h0 : 0≤i) (h1:i < xs.length):∃ d,xs[i.toNat]? = some d∧atI xs i = some d:=by
 have hl:i.toNat < xs.length:=by omega
 refine ⟨xs[i.toNat],List.getElem?_eq_getElem hl,?_⟩
 unfold atI ixN
 rw [if_pos h0,if_pos h1]
 exact List.getElem?_eq_getElem hl
theorem v3 {ns:List Int} {i:Int} (h0 : 0≤i) (h1:i < ns.length):∃ x:Int,atI (ns.map PyData.int) i = some (.int x):=by
 obtain ⟨d,e,h⟩:=Dr (xs:=ns.map PyData.int) h0 (by rw [List.length_map]; exact h1)
 rw [List.getElem?_map] at e
 cases q:ns[i.toNat]? with
 | none=>rw [q] at e; cases e
 | some x=>rw [q] at e; cases e; exact ⟨x,h⟩
section
variable {X:Cx} {tg a b c e:Expr} {es:List Expr} {wo wa wb wc we wi:WE} {ws:WA} {pos p p2:Pos}
def dk:List PyData→Option (List Int)
 | []=>some []
 | .int i :: ds=>(dk ds).map (i :: ·)
 | _ :: _=>none
theorem jt {ds:List PyData} {ns:List Int} (h:dk ds = some ns):ds = ns.map .int:=by
 induction ds generalizing ns with
 | nil=>cases h; rfl
 | cons d ds ih =>
  cases d with
  | int i =>
   simp only [dk] at h
   cases q:dk ds with
   | none=>rw [q] at h; cases h
   | some ms=>rw [q] at h; cases h; rw [ih q]; rfl
  | none=>cases h
  | bool _=>cases h
  | str _=>cases h
  | list _=>cases h
  | tuple _=>cases h
  | dict _=>cases h
theorem de:∀ ns:List Int,dk (ns.map .int) = some ns
 | []=>rfl
 | n :: ns=>by simp only [List.map_cons,dk,de ns,Option.map_some]
theorem e9 {K:Kd} {H:Hp}:∀ {ns:List Int} {xs:List V},DenAll K H (ns.map .int) xs→xs = ns.map V.int
 | [],_,h=>by simpa only [List.map_nil,DenAll] using h
 | n :: ns,_,h=>by
  simp only [List.map_cons,DenAll] at h
  obtain ⟨v,vs,rfl,h1,h2⟩:=h
  have e:=au (K:=K) (H:=H) h1
  rw [e,e9 h2]; rfl
def oSum:WC:=fun rs m K=>on1 (fun r=>∃ ds ns,lsOf m r = some ds∧dk ds = some ns∧K (.imm (.int ns.sum))) rs
theorem qE (hc:X.calm = true):b9 X (.builtin "sum") (cM X.kx oSum):=by
 rintro pins s σ' H xs us Q I rv ⟨α,m,σ,H0,rs,Kc,Rl,h,ho,fin⟩
 obtain ⟨r,v,rfl,rfl,h1,ds,ns,el,ei,ho⟩:=bO h ho
 obtain ⟨a,ys,rfl,f,g⟩:=h1.list Rl el
 rw [jt ei] at g
 have ey:=e9 g
 subst ey
 obtain ⟨u,rfl,ru⟩:=rv.one
 cases ru
 obtain ⟨its,rv1,pl,_⟩:=I.list f
 have hi:=jC rv1
 have hall:AllInts its.toArray:=hi.allInts
 obtain ⟨xs,ex⟩:=hall.items
 have hl:s.heap.IsList a (intItems xs):=by rw [←ex]; exact pl.isList
 refine sum_intListG (I.ok.hd hc) hl fun h' tk t' hk=>?_
 have e1:preSum (numAt xs) xs.size = ns.sum:=by
  have e2:(numsOf its).sum = ns.sum:=by rw [hi.numsOf]
  rw [←e2]
  have e3:=congrArg Array.toList ex
  have e4:its = (intItems xs).toList:=by simpa using e3
  rw [e4,nums_intItems,preSum_eq,List.take_of_length_le (by simp)]
 rw [e1]
 exact ⟨.int ns.sum,H,I.kept (t':=tk) hk,⟨_,rfl⟩,fin _ _ H ho Rl (cA _) (Frm.refl _ _)⟩
def tyN:PyData→String
 | .none => "NoneType"
 | .bool _ => "bool"
 | .int _ => "int"
 | .str _ => "str"
 | .list _ => "list"
 | .tuple _ => "tuple"
 | .dict _ => "dict"
def tyR:R→String
 | .imm d=>tyN d
 | _ => "list"
def ndR:R→Bool
 | .imm (.dict _)=>false
 | .at _ _=>false
 | .newT _=>false
 | _=>true
def IsT (T:String) (f:String→Bool):Prop:=∀ (K:PySem.W.Frag) (n:String),n∈["NoneType", "bool", "int", "str", "list", "tuple"]→PySem.W.kitOne K (.type n) (.type T) = some (f n)
theorem ud {T:String} {f:String→Bool} (h:∀ n∈["NoneType", "bool", "int", "str", "list", "tuple"],(if ((Value.type n) == (Value.type T)) = true then some true else if PySem.W.kitMeta T = true then (fastBuiltinMro n).map (·.contains (.type T)) else none) = some (f n)):IsT T f:=fun K n hn=>by
 have:=h n hn
 unfold PySem.W.kitOne PySem.W.kitCls PySem.W.subIn
 exact this
def fInt (n:String):Bool:=n == "int" || n == "bool"
theorem Ac:IsT "int" fInt:=ud (by decide +kernel)
theorem vn:IsT "bool" (fun n=>n == "bool"):=ud (by decide +kernel)
theorem rj:IsT "tuple" (fun n=>n == "tuple"):=ud (by decide +kernel)
def rIsI (K:Kx) (T:String) (f:String→Bool):List V→Hp→VK→Prop:=fun xs H Q=>∃ α m σ H0 r v,Rel K α m σ H∧RelR K α H0 H r v∧ndR r = true∧xs = [v,.ty T]∧Q (.bl (f (tyR r))) H
theorem vC {T:String} {f:String→Bool} (hf:IsT T f):b9 X (.builtin "isinstance") (rIsI X.kx T f):=by
 rintro pins s σ' H xs us Q I rv ⟨α,m,σ,H0,r,v,Rl,h,hnd,ex,q⟩
 subst ex
 obtain ⟨u,c,rfl,ru,rc⟩:=rv.two
 cases (show c = Value.type T from rc)
 have done:∀ tk,EP X pins σ' Q (.bool (f (tyR r))) { s with toks:=tk }:=fun tk=>⟨.bl _,H,I.tok tk,rfl,q⟩
 have lst:∀ {a:Addr} {ys:List V},v = .ref a→SqL X.kx H a ys→tyR r = "list" → wpAny (model X.prog X.w) X.A (call (.builtin "isinstance") [u,.type T]) (EP X pins σ' Q) X.xe s:=fun {a ys} ev f1 et=>by
  subst ev
  cases (show u = Value.ref a from ru)
  obtain ⟨its,_,⟨o,n,e1,e2,_⟩,_⟩:=I.list f1
  exact PySem.W.kia_one PySem.W.kitx_list I.kIn ⟨o,e1,e2⟩ (by rw [et]; exact hf X.K "list" (by decide)) (fun z=>nomatch z) done
 cases r with
 | obj k =>
  have hh:=h
  obtain ⟨a,ea,rfl⟩:=hh
  have hk:k < m.os.length:=by rw [←Rl.len]; exact (List.getElem?_eq_some_iff.mp ea).1
  obtain ⟨ys,e1,_⟩:=Rl.own k _ _ ea (List.getElem?_eq_getElem hk)
  exact lst rfl (SqL.of e1) rfl
 | new ds=>obtain ⟨a,ys,rfl,_,e1,_⟩:=h; exact lst rfl (SqL.of e1) rfl
 | «at» _ _=>cases hnd
 | newT _=>cases hnd
 | imm d =>
  cases d with
  | none=>have e:=dW (show Den X.kx H .none v from h); subst e; cases (show u = Value.none from ru); exact PySem.W.kia_one PySem.W.kitx_none I.kIn True.intro (hf X.K "NoneType" (by decide)) (fun z=>nomatch z) done
  | bool x=>have e:=fz (show Den X.kx H (.bool x) v from h); subst e; cases (show u = Value.bool x from ru); exact PySem.W.kia_one PySem.W.kitx_bool I.kIn True.intro (hf X.K "bool" (by decide)) (fun z=>nomatch z) done
  | int x=>have e:=au (show Den X.kx H (.int x) v from h); subst e; obtain ⟨t,q⟩:=(show ∃ t,u = Value.int x t from ru); cases q; exact PySem.W.kia_one PySem.W.kitx_int I.kIn True.intro (hf X.K "int" (by decide)) (fun z=>nomatch z) done
  | str x=>have e:=aW (show Den X.kx H (.str x) v from h); subst e; obtain ⟨t,q⟩:=(show ∃ t,u = Value.str x t from ru); cases q; exact PySem.W.kia_one PySem.W.kitx_str I.kIn True.intro (hf X.K "str" (by decide)) (fun z=>nomatch z) done
  | list ds =>
   have h':Den X.kx H (.list ds) v:=h
   simp only [Den] at h'
   obtain ⟨a,ys,e,f1,_⟩:=h'
   exact lst e f1.sq rfl
  | tuple ds =>
   obtain ⟨a,ys,rfl,f1,_⟩:=aY (show Den X.kx H (.tuple ds) v from h)
   cases (show u = Value.ref a from ru)
   obtain ⟨its,_,⟨o,e1,e2,_⟩,_⟩:=I.tuple f1
   exact PySem.W.kia_one PySem.W.kitx_tuple I.kIn ⟨o,e1,e2⟩ (hf X.K "tuple" (by decide)) (fun z=>nomatch z) done
  | dict es=>cases hnd
def wIsT (f:String→Bool) (we:WE):WE:=fun m K=>we m fun r m'=>ndR r = true∧K (.imm (.bool (f (tyR r)))) m'
theorem Iq {T:String} {x:Str} {f:String→Bool} (he:ME X e we) (hf:IsT T f) (hmi:X.mg "isinstance" = none) (hm:X.mg x = none) (hv:bootBuiltins x = some (.type T)) (hgi:Gl X "isinstance" := by rfl) (hg:Gl X x:=by rfl) (hn:x ≠ "__name__" := by decide) (hd:(x == ("__debug__" : Str)) = false:=by decide)
  (he1:starEach [e,.Name x p2] X.env = (false,eval e X.env) :: starEach [.Name x p2] X.env:=by rfl) (he2:starEach [.Name x p2] X.env = (false,eval (.Name x p2) X.env) :: starEach [] X.env:=by rfl) (hpl:(backTo pos (starEach [.Name x p2] X.env)).any (·.1) = false:=by rfl) :
  ME X (.Call (.Name "isinstance" p) [e,.Name x p2] [] pos) (wIsT f we):=(nW (vC hf) hgi hmi kJ (mj he (mj (Bm hg hm hv (v:=.ty T) rfl hn hd) yV he2) he1) (by decide) (by decide) he1 hpl).wk fun σ H Q ⟨α,m,Kc,Rl,hw,fin⟩ =>
 ⟨α,m,_,Rl,hw,fun r m' v H' k n Rl' rr F=>⟨α,m',σ,H,r,v,Rl',rr,k.1,rfl,fin _ m' _ H' k.2 n Rl' (je _) F⟩⟩
theorem Jc {m:MSt} {K:R→MSt→Prop} {f:String→Bool} (h:we m fun r m'=>ndR r = true∧K (.imm (.bool (f (tyR r)))) m'):wIsT f we m K:=h
theorem x_nd {r:R} {P:Prop} (e:ndR r = true) (h:P):ndR r = true∧P:=⟨e,h⟩
end
theorem bi {ds:List PyData} {g:WG} {w:WS} {D:fM} {m1:MSt} (P:Nat→MSt→Prop) (p0:P 0 m1)
  (step:∀ (i:Nat) (d:PyData) (m:MSt),ds[i]? = some d→m.np = m1.np→P i m→g d m fun m2=>w { nx:=P (i + 1),ct:=P (i + 1),bk:=fun m'=>D.nx (m'.setN m1.np),rt:=fun r m'=>D.rt r (m'.setN m1.np) } m2)
  (fin:∀ m,m.np = m1.np→P ds.length m→D.nx m):la ⟨ds,none⟩ g w D m1:=by
 refine ⟨P,p0,fun i d m e n p=>⟨trivial,step i d m e n p⟩,fun m n p=>⟨trivial,?_⟩⟩
 have e:m.setN m1.np = m:=by
  obtain ⟨a,b,c⟩:=m
  have n':c = m1.np:=n
  subst n'
  rfl
 rw [e]
 exact fin m n p
theorem dJ {k:Nat} {ds:List PyData} {g:WG} {w:WS} {D:fM} {m1:MSt} (P:Nat→MSt→Prop) (p0:P 0 (m1.setN (max m1.np (k + 1))))
  (ok:∀ i m,P i m→m.os[k]? = some ds)
  (step:∀ (i:Nat) (d:PyData) (m:MSt),ds[i]? = some d→m.np = max m1.np (k + 1)→P i m→g d m fun m2=>w { nx:=P (i + 1),ct:=P (i + 1),bk:=fun m'=>D.nx (m'.setN m1.np),rt:=fun r m'=>D.rt r (m'.setN m1.np) } m2)
  (fin:∀ m,m.np = max m1.np (k + 1)→P ds.length m→D.nx (m.setN m1.np)):la ⟨ds,some k⟩ g w D m1 :=
 ⟨P,p0,fun i d m e n p=>⟨ok i m p,step i d m e n p⟩,fun m n p=>⟨ok _ m p,fin m n p⟩⟩
theorem kh {t:WT} {w:WS} {D:fM} {m0:MSt} (P:Nat→MSt→Prop) (n0:Nat) (p0:P n0 m0)
  (step:∀ n m,m.np = m0.np→P n m→t m fun c m'=>if c = true then w { D with nx:=fun m2=>∃ n',n' < n∧P n' m2,ct:=fun m2=>∃ n',n' < n∧P n' m2,bk:=D.nx } m' else D.nx m'):rl t w D m0:=⟨P,⟨n0,p0⟩,step⟩
theorem wG {ds:List PyData} {n:Nat} (h:ds.length≤n):cutD ds none (some (n:Int)) = ds:=by
 unfold cutD
 rw [HT.sIx_none,HT.sIx_nat,Nat.min_eq_right h,Nat.sub_zero,List.drop_zero,List.take_length]
theorem BT {m:MSt} {K:R→MSt→Prop} {wi:WI} {own:List Str} {ps:List Nat} {g:WG} {tt:WT} {we:WE} (h:wi m fun s m1=>la s g (wIfT tt (yf m1.os.length we)) { nx:=fun m'=>K (.new (m'.os.getD m1.os.length [])) { m1 with os:=m'.os.take m1.os.length },rt:=fun _ _=>False } (jf own ps m1)):jz wi own ps g tt we m K:=h
theorem kU {n k:Nat} (h:k < n):ixN n (k:Int) = some k:=by
 unfold ixN
 rw [if_pos (by omega),if_pos (by omega)]
 simp
theorem js {n k:Nat} {P:MSt→Prop} {m:MSt} {ds:List PyData} (h1:m.vs[n]? = some (some (.obj k))) (h2:m.np≤k) (h3:∀ j:Nat,j≠n→m.vs[j]?≠some (some (.obj k))) (h:P { m with os:=m.os.set k ds }):kr n P m (.new ds):=.inr ⟨k,h1,h2,h3,h⟩
theorem bF {α : Type} {xs:List α} {k:Nat} {d x : α} (h:xs[k]? = some x):xs.getD k d = x:=by
 rw [List.getD_eq_getElem?_getD,h]; rfl
theorem x_JS {w:WS} {m:MSt} {D:fM} (Φ : MSt→Prop) (h:∀ N:MSt→Prop,(∀ m',Φ m'→N m')→w { D with nx:=N } m) (J:∀ m',Φ m'→D.nx m'):w D m:=h D.nx J
structure Fine (n k:Nat) (d:PyData):Prop where
 sh:d.showable = true
 nd:d.hasDict = false
 ln:d.shown.length≤n
 dp:d.depth≤k
theorem Fine.mono {n k n' k':Nat} {d:PyData} (h:Fine n k d) (hn:n≤n') (hk:k≤k'):Fine n' k' d:=⟨h.sh,h.nd,Nat.le_trans h.ln hn,Nat.le_trans h.dp hk⟩
theorem jD {n k:Nat} (h:n < 2 ^ k) (hk : 0 < k):n.log2 < k:=by
 by_cases h0:n = 0
 ·subst h0; rw [Nat.log2_zero]; exact hk
 ·rw [Nat.log2_lt h0]
  exact h
theorem pz {i:Int} (h:i.natAbs < 10 ^ 12):Fine 13 0 (.int i):=by
 refine ⟨?_,rfl,PyData.shown_int_le h,Nat.le_refl _⟩
 have:i.natAbs.log2 < 40:=jD (Nat.lt_of_lt_of_le h (by decide)) (by decide)
 show decide (i.natAbs.log2 < 1920) = true
 apply decide_eq_true
 omega
theorem oU {n k:Nat}:∀ {ds:List PyData},(∀ d∈ds,Fine n k d)→PyData.showableAll ds = true∧PyData.hasDictAll ds = false∧((PyData.shownAll ds).map (·.length)).sum≤ds.length * n∧(PyData.shownAll ds).length = ds.length∧PyData.depthAll ds≤k
 | [],_=>⟨rfl,rfl,by simp [PyData.shownAll],rfl,by simp [PyData.depthAll]⟩
 | d :: ds,h=>by
  obtain ⟨h1,h2,h3,h4,h5⟩:=oU fun d' h'=>h d' (List.mem_cons_of_mem _ h')
  have h0:=h d List.mem_cons_self
  refine ⟨?_,?_,?_,?_,?_⟩
  ·show (d.showable && PyData.showableAll ds) = true; rw [h0.sh,h1]; rfl
  ·show (d.hasDict || PyData.hasDictAll ds) = false; rw [h0.nd,h2]; rfl
  ·show (d.shown.length :: (PyData.shownAll ds).map (·.length)).sum≤_
   rw [List.sum_cons,List.length_cons,Nat.succ_mul]
   have:=h0.ln
   omega
  ·show (PyData.shownAll ds).length + 1 = _; rw [h4]; rfl
  ·show max d.depth (PyData.depthAll ds)≤k
   have:=h0.dp
   omega
theorem cY {n k c:Nat} {ds:List PyData} (h:∀ d∈ds,Fine n k d) (hc:ds.length≤c):Fine (c * (n + 2) + 3) (k + 1) (.tuple ds):=by
 obtain ⟨h1,h2,h3,h4,h5⟩:=oU h
 refine ⟨h1,h2,?_,?_⟩
 ·show (tupleText (PyData.shownAll ds)).length≤_
  have:=tupleText_len_le (PyData.shownAll ds)
  have e:ds.length * (n + 2)≤c * (n + 2):=Nat.mul_le_mul_right _ hc
  rw [Nat.mul_add] at e
  rw [h4] at this
  omega
 ·show PyData.depthAll ds + 1≤_; omega
structure Shp (k:Nat) (d:PyData):Prop where
 cl:d.canLay0 = true
 dp:d.depth≤k
theorem Shp.mono {k k':Nat} {d:PyData} (h:Shp k d) (hk:k≤k'):Shp k' d:=⟨h.cl,Nat.le_trans h.dp hk⟩
theorem Shp.ok {k:Nat} {d:PyData} (h:Shp k d) (hk:k≤64):SeqAt.shaped d = true:=by
 unfold SeqAt.shaped
 rw [h.cl,decide_eq_true (Nat.le_trans h.dp hk)]; rfl
theorem d8 (i:Int):Shp 0 (.int i):=⟨rfl,Nat.le_refl _⟩
theorem gw {k:Nat}:∀ {ds:List PyData},(∀ d∈ds,Shp k d)→PyData.canLayAll0 ds = true∧PyData.depthAll ds≤k
 | [],_=>⟨rfl,by simp [PyData.depthAll]⟩
 | d :: ds,h=>by
  obtain ⟨h1,h2⟩:=gw fun d' h'=>h d' (List.mem_cons_of_mem _ h')
  have h0:=h d List.mem_cons_self
  refine ⟨?_,?_⟩
  ·simp only [PyData.canLayAll0]; rw [h0.cl,h1]; rfl
  ·show max d.depth (PyData.depthAll ds)≤k
   have:=h0.dp
   omega
theorem vh {k:Nat} {ds:List PyData} (h:∀ d∈ds,Shp k d):Shp (k + 1) (.list ds):=by
 obtain ⟨h1,h2⟩:=gw h
 exact ⟨by simp only [PyData.canLay0]; exact h1,by show PyData.depthAll ds + 1≤_; omega⟩
theorem nt {m:MSt} {r:R} {d:PyData} {Kr:R→Prop} {n k:Nat} (h:Fine n k d) (e:asD m r = some d) (hn:n≤16777216) (hk:k≤100) (hK:Kr (.imm (.str d.shown))):zM [r] m Kr:=DK e h.sh h.nd (by rw [sizeLine_eq]; exact Nat.le_trans h.ln hn) (Nat.le_trans h.dp hk) hK
theorem qy {K:Kd} {H:Hp} {a:Addr} {ns:List Int} (hO:Only H) (h:SqL K H a (ns.map V.int)):Den K H (.list (ns.map .int)) (.ref a):=by
 simp only [Den]
 refine ⟨a,_,rfl,?_,DenAll.ints _⟩
 rcases h with (h | ⟨o,h⟩) | h
 ·rcases hO a with z | ⟨o,xs,z⟩
  ·rw [h] at z; cases z
  ·rw [h] at z; cases z
 ·exact .inl ⟨o,h⟩
 ·exact .inr h
theorem C6 {P:Program} {w:World} {K:PySem.W.Frag} {mg:Str→Option Value} {base:Heap} {x:Str} {st:Stmt} {N ps:List Str} {n nN k:Nat} {sp:SpM} {f:Addr} {fd:FuncData} (F:Fun K x x st f fd) (S:ak N ps (ab st)) (hn:ps.length = n) (hN:N.length = nN) (hle:n≤nN)
  (hbody:∀ (cdv:Value) (A:Around) (outer:List Env) (s:Shared) (H:Hp) (E:XK) (f:Addr),Room k (A.deeper (envOfC x (ab st) s.heap.objs.size f cdv)) →
   ∃ ww,MSs (cxOf CX0 P w K mg base N x (ab st) f cdv A outer s H E).nox (bh st) ww∧∀ as Kc,as.length = n→sp as Kc→ww { nx:=fun m=>Kc (.imm .none) (m.os.take m.np),rt:=fun r m=>retK Kc m r } (cv nN as)) :
  FnOk P w K mg base CX0 (k + 1) f fd ps (spOf ⟨K,w⟩ n sp):=by
 refine F.ok S (fun vs H Q E h=>by rw [hn]; exact h.len) (fun cdv A outer s H vs Q E hr h=>?_)
 obtain ⟨ww,h1,h2⟩:=hbody cdv A outer s H E f hr
 exact ⟨_,h1,fn_m (K:=(cxOf CX0 P w K mg base N x (ab st) f cdv A outer s H E).nox.kx) rfl h hN hle h2⟩
structure DefK (K:PySem.W.Frag) (x:Str) (st:Stmt):Prop where
 ex:∃ (f:Addr) (fd:FuncData),PySem.W.nsIn K mainGlobals x = some (some (.ref f))∧Fun K x x st f fd
theorem DefK.of {K:PySem.W.Frag} {x:Str} {st:Stmt} {f:Addr} {oc kV doc pm cdv ct:Value} {od an:Option Addr} {sl:Array (Option Value)} (a:PySem.W.nsIn K mainGlobals x = some (some (.ref f)))
  (l:K.lookup f = some ⟨oc,od,.func (PySem.W.fnOf x x (cg st) (bh st) (ab st) .none kV doc pm an cdv ct),sl⟩) (c:PySem.W.codeIn K cdv x = true) (k:PySem.W.keepIn K (.ref f) = true):DefK K x st:=⟨f,_,a,lv l c k⟩
theorem DefK.m {K:PySem.W.Frag} {mg:Str→Option Value} {h:Heap} {x:Str} {st:Stmt} {ps:List Str} (D:DefK K x st) (X:K.In h) (G:h.Ns mainGlobals mg) (b:∀ (f:Addr) (fd:FuncData),Fun K x x st f fd→Binds K fd ps []):DefM K mg x st ps:=by
 obtain ⟨f,fd,a,F⟩:=D.ex
 exact ⟨f,fd,F,PySem.W.mg_of X G a,b f fd F⟩
structure EE (X:Cx) (e:Expr) (w:WE):Prop where
 h:ME X e w
structure ET (X:Cx) (e:Expr) (w:WT):Prop where
 h:MT X e w
structure EW (X:Cx) (e:Expr) (w:WT):Prop where
 h:MW X e w
structure EA (X:Cx) (es:List Expr) (w:WA):Prop where
 h:MA X es w
structure ES (X:Cx) (st:Stmt) (w:WS):Prop where
 h:MS X st w
structure ESs (X:Cx) (st:List Stmt) (w:WS):Prop where
 h:MSs X st w
structure EI (X:Cx) (tg e:Expr) (w:WI):Prop where
 h:MI X tg e w
structure EG (X:Cx) (t:Expr) (w:WG):Prop where
 h:MG X t w
structure EGs (X:Cx) (ts:List Expr) (w:WGs):Prop where
 h:MGs X ts w
structure EO (X:Cx) (e:Option Expr) (w:WO1):Prop where
 h:MO X e w
structure ETs (X:Cx) (ifs:List Expr) (w:WT):Prop where
 h:PTs X ifs (tMT X.kx w)
theorem EW.pt {X:Cx} {e:Expr} {w:WT} (h:EW X e w):ET X e w:=⟨h.h.pt⟩
section
variable {X:Cx} {a b c:Expr} {es:List Expr} {wa wb wc:WE} {pos:Pos}
theorem mh' {i j pos}:EE X (.Constant (.int i) j pos) (wC (.int i)):=⟨Df⟩
theorem fb {i j pos}:EE X (.Constant (.bool i) j pos) (wC (.bool i)):=⟨JD⟩
theorem ae {i j pos}:EE X (.Constant (.str i) j pos) (wC (.str i)):=⟨Ig⟩
theorem c9 {j pos}:EE X (.Constant .none j pos) (wC .none):=⟨Dt⟩
theorem mv' (i:Nat) {x:Str} {pos:Pos} (hN:X.N[i]? = some x:=by rfl) (hv:Vis X.env.scope x:=by first | exact Or.inl rfl | exact Or.inr (Or.inl rfl) | exact Or.inr (Or.inr rfl)) (hd:(x == ("__debug__" : Str)) = false:=by decide) (hcd:(x == ("__classdict__" : Str)) = false:=by decide):EE X (.Name x pos) (wVar i):=⟨mv i hN hv hd hcd⟩
theorem af {op:Operator} {o:WO} (ho:OpR X (binaryOp op) (rM X.kx o)) (ha:EE X a wa) (hb:EE X b wb):EE X (.BinOp a op b pos) (wBin o wa wb):=⟨Fm ho ha.h hb.h⟩
theorem gm {op:CmpOp} {o:WO} (ho:OpR X (compareOp op) (rM X.kx o)) (ha:EE X a wa) (hb:EE X b wb) (hm:behindInMarks op b = false):EE X (.Compare a [op] [b] pos) (wBin o wa wb):=⟨GM ho ha.h hb.h hm⟩
theorem ap {op:CmpOp} {o:WO} (ho:OpR X (compareOp op) (rM X.kx o)) (ha:EE X a wa) (hb:EE X b wb) (hm:behindInMarks op b = false):ET X (.Compare a [op] [b] pos) (qc (wBin o wa wb)):=⟨II ho ha.h hb.h hm⟩
theorem cz (ha:EE X a wa) (he:∀ whole,isTrue a X.env whole = (do let v ← whole; standAt a.pos; holding [v] (truthy v)):=by intro _; rfl):ET X a (qc wa):=⟨D4 ha.h he⟩
end
section
variable {X:Cx} {a b c:Expr} {es:List Expr} {wa wb wc:WE} {pos:Pos}
theorem tu {op op':CmpOp} {o o':WO} (ho:OpR X (compareOp op) (rM X.kx o)) (ho':OpR X (compareOp op') (rM X.kx o')) (ha:EE X a wa) (hb:EE X b wb) (hc:EE X c wc) (hm:lastMarks [op,op'] [b,c] = false:=by with_unfolding_all rfl):EE X (.Compare a [op,op'] [b,c] pos) (o9 o o' wa wb wc):=⟨ye ho ho' ha.h hb.h hc.h hm⟩
end
section
variable {X:Cx} {a b c:Expr} {es:List Expr} {wa wb wc:WE} {pos:Pos}
variable {wt wu:WT} {rest:List Expr}
theorem ie (ha:ET X a wt):EW X (.BoolOp .And [a] pos) wt:=⟨AY ha.h⟩
theorem j4 (ha:ET X a wt):EW X (.BoolOp .Or [a] pos) wt:=⟨DI ha.h⟩
theorem j8 (ha:ET X a wt) (hb:EW X (.BoolOp .And (b :: rest) pos) wu):EW X (.BoolOp .And (a :: b :: rest) pos) (wAnd wt wu):=⟨IA ha.h hb.h⟩
theorem iX (ha:ET X a wt) (hb:EW X (.BoolOp .Or (b :: rest) pos) wu):EW X (.BoolOp .Or (a :: b :: rest) pos) (wOr wt wu):=⟨Jr ha.h hb.h⟩
theorem iC (ha:ET X a wt):ET X (.UnaryOp .Not a pos) (wNot wt):=⟨C8 ha.h⟩
theorem jS {op} (h:EE X a wa):EE X (.BoolOp op [a] pos) wa:=⟨CZ h.h⟩
theorem kM (ha:EE X a wa) (hb:EE X (.BoolOp .And (b :: rest) pos) wb):EE X (.BoolOp .And (a :: b :: rest) pos) (B0 wa wb):=⟨Iw ha.h hb.h⟩
theorem BF (ha:EE X a wa):EE X (.UnaryOp .Not a pos) (zf wa):=⟨Ga ha.h⟩
theorem qV {t:Expr} (ht:ET X t wt) (ha:EE X a wa) (hb:EE X b wb):EE X (.IfExp t a b pos) (wIfE wt wa wb):=⟨JA ht.h ha.h hb.h⟩
theorem jr {op:UnaryOp} {o:WU} (ho:UnR X (unaryOp op) (uM X.kx o)) (ha:EE X a wa):EE X (.UnaryOp op a pos) (wUn o wa):=⟨JJ ho ha.h⟩
theorem cB (ha:EE X a wa):EE X a (wImm wa):=⟨FM ha.h⟩
end
section
variable {X:Cx} {a b c:Expr} {es:List Expr} {wa wb wc:WE} {pos:Pos}
variable {wt wu:WT} {rest:List Expr}
variable {ws:WA}
theorem mn'  : EA X [] wNil:=⟨IL⟩
theorem mc' (ha:EE X a wa) (hr:EA X es ws) (hs:starEach (a :: es) X.env = (false,eval a X.env) :: starEach es X.env:=by first | exact aD rfl | rfl):EA X (a :: es) (zj wa ws):=⟨AZ ha.h hr.h hs⟩
theorem aw {x1} (h:EA X es ws):EE X (.Tuple es x1 pos) (wTup ws):=⟨DT h.h⟩
theorem bH (h:EA X es ws):EE X (.List es pos) (wLst ws):=⟨Ii h.h⟩
theorem ay {id:String} {x:Str} {p:Pos} {o:WC} (hc:b9 X (.builtin id) (cM X.kx o)) (hg:Gl X x) (hm:X.mg x = none) (hv:bootBuiltins x = some (.builtin id)) (ha:EA X (a :: es) ws) (hn:x ≠ "__name__" := by decide) (hdb:(x == ("__debug__" : Str)) = false:=by decide) (he:starEach (a :: es) X.env = (false,eval a X.env) :: starEach es X.env:=by first | exact aD rfl | rfl) (hpl:(backTo pos (starEach es X.env)).any (·.1) = false:=by rfl):EE X (.Call (.Name x p) (a :: es) [] pos) (wCB o ws):=⟨xx hc hg hm hv ha.h hn hdb he hpl⟩
theorem aM {T:String} {x:Str} {p:Pos} {o:WC} (hc:b9 X (.type T) (cM X.kx o)) (hg:Gl X x) (hm:X.mg x = none) (hv:bootBuiltins x = some (.type T)) (ha:EA X (a :: es) ws) (hn:x ≠ "__name__" := by decide) (hdb:(x == ("__debug__" : Str)) = false:=by decide) (he:starEach (a :: es) X.env = (false,eval a X.env) :: starEach es X.env:=by first | exact aD rfl | rfl) (hpl:(backTo pos (starEach es X.env)).any (·.1) = false:=by rfl):EE X (.Call (.Name x p) (a :: es) [] pos) (wCB o ws):=⟨uR hc hg hm hv ha.h hn hdb he hpl⟩
end
section
variable {X:Cx} {a b c e:Expr} {es:List Expr} {wa wb wc we:WE} {pos:Pos} {st:Stmt} {rest:List Stmt} {w u:WS}
theorem aq  : ESs X [] xO:=⟨uk⟩
theorem mz' (h1:ES X st w) (h2:ESs X rest u):ESs X (st :: rest) (wSeq w u):=⟨v8 h1.h h2.h⟩
theorem aa (h1:ES X st w):ESs X [st] w:=⟨Cw h1.h⟩
end
section
variable {X:Cx} {a b c e:Expr} {es:List Expr} {wa wb wc we:WE} {ws:WA} {wt:WT} {pos:Pos} {st:Stmt} {rest body body2:List Stmt} {w u:WS}
theorem ac (he:EE X e we):ES X (.Return (some e) pos) (wRet we):=⟨Ik he.h⟩
theorem cj (he:EE X e we) (hs:swapsWith e none pos.line X.env = pure false:=by rfl):ES X (.Expr e pos) (CG we):=⟨Cq he.h hs⟩
theorem aE {t:Expr} (ht:ET X t wt) (h1:ESs X body w) (h2:ESs X body2 u):ES X (.If t body body2 pos) (wIfS wt w u):=⟨KF ht.h h1.h h2.h⟩
theorem sv  : ES X st yX:=⟨vz⟩
theorem ai {i:Nat} {x:Str} {pos':Pos} (hN:X.N.Nodup) (hi:X.N[i]? = some x) (hx:Loc X.env.scope x) (he:EE X e we) (hs:swapsWith e (some (.Name x pos')) pos.line X.env = pure false:=by rfl) (hf:X.fn x = true∨X.env.scope.names.lookup x = some .local:=by first | exact .inl rfl | exact .inr rfl | assumption):ES X (.Assign [.Name x pos'] e pos) (wSet i we):=⟨Dl hN hi hx he.h hs hf⟩
theorem ad {i:Nat} {x:Str} (hN:X.N.Nodup) (hi:X.N[i]? = some x) (hx:Loc X.env.scope x) (hf:X.fn x = true∨X.env.scope.names.lookup x = some .local:=by first | exact .inl rfl | exact .inr rfl | assumption):EG X (.Name x pos) (gM i):=⟨Bj hN hi hx hf⟩
theorem a9  : EGs X [] zn:=⟨CF⟩
theorem ah {e:Expr} {es:List Expr} {g:WG} {gs:WGs} (h1:EG X e g) (h2:EGs X es gs) (hs:(assignEach (e :: es) X.env).map (·.2) = assign e X.env :: (assignEach es X.env).map (·.2):=by rfl):EGs X (e :: es) (tU g gs):=⟨vj h1.h h2.h hs⟩
theorem bt {es:List Expr} {k:Nat} {gs:WGs} {n:Nat} (h:EGs X es gs) (hc:X.calm = true:=by rfl) (hn:(assignEach es X.env).length = n:=by rfl) (hst:(assignEach es X.env).findIdx? (·.1) = none:=by rfl):EG X (.Tuple es k pos) (Cr n gs):=⟨Fy h.h hc hn hst⟩
theorem cR {tg:Expr} {g:WG} (he:EE X e we) (hg:EG X tg g) (hs:swapsWithSole [tg] e pos.line X.env = pure false:=by rfl) (hw:swappedStores [tg] e X.env = pure none:=by rfl) (h1:(assignEach [tg] X.env).map (·.2) = [assign tg X.env]:=by rfl):ES X (.Assign [tg] e pos) (wAsg we g):=⟨FQ he.h hg.h hs hw h1⟩
theorem mm {i j:Nat} {x y:Str} {px py pt:Pos} {kt k2 pt2} (hN:X.N.Nodup) (hi:X.N[i]? = some x) (hj:X.N[j]? = some y) (hij:i≠j) (hx:X.env.scope.names.lookup x = some .local) (hy:X.env.scope.names.lookup y = some .local) (ha:EA X [a,b] ws) (hw:swappedStores [.Tuple [.Name x px,.Name y py] kt pt] (.Tuple [a,b] k2 pt2) X.env = pure (some [x,y])) (hc:X.calm = true:=by rfl) (hs:swapsWithSole [.Tuple [.Name x px,.Name y py] kt pt] (.Tuple [a,b] k2 pt2) pos.line X.env = pure false:=by rfl):ES X (.Assign [.Tuple [.Name x px,.Name y py] kt pt] (.Tuple [a,b] k2 pt2) pos) (wPar i j ws):=⟨C9 hN hi hj hij hx hy ha.h hw hc hs⟩
end
section
variable {X:Cx} {tg a b c e iter:Expr} {es:List Expr} {wa wb wc we:WE} {ws:WA} {wt:WT} {pos:Pos} {st:Stmt} {rest body body2:List Stmt} {w u:WS}
theorem bG (he:EE X e we):EI X tg e (Bz we):=⟨GZ he.h⟩
theorem bX {p:Pos} (hg:Gl X "range") (hm:X.mg "range" = none) (ha:EA X [a] ws) (hs:starEach [a] X.env = [(false,eval a X.env)]:=by first | exact br rfl | rfl):EI X tg (.Call (.Name "range" p) [a] [] pos) (t9 ws):=⟨qT hg hm ha.h hs⟩
theorem bT {wi:WI} {g:WG} (hi:EI X tg iter wi) (hg:EG X tg g) (hb:ESs X body w) (hp:PassesOwn (model X.prog X.w) X.A X.env X.xe) (hc:X.calm = true:=by rfl) (hs:∀ x,foldedSetIterable iter X.env x = pure x:=by intro _; rfl):ES X (.For tg iter body [] pos) (wFor wi g w):=⟨IU hi.h hg.h hb.h hp hc hs⟩
theorem fy {t:Expr} (ht:ET X t wt) (hb:ESs X body w) (hp:PassesOwn (model X.prog X.w) X.A X.env X.xe):ES X (.While t body [] pos) (rl wt w):=⟨wr ht.h hb.h hp⟩
end
section
variable {X:Cx} {scope sc:Scope} {own fr:List Str} {ps:List Nat} {elt tg iter tg2 iter2:Expr} {ifs ifs2:List Expr} {pos spos py:Pos} {wi wi2:WI} {g g2:WG} {tt tt2:WT} {we:WE}
theorem bu (S:b8 own fr scope sc) (hi:EI X tg iter wi) (hg:∀ cl s H C ex,EG (bp X scope cl (own++fr) s H C ex) tg g) (ht:∀ cl s H C ex,ETs (bp X scope cl (own++fr) s H C ex) ifs tt) (he:∀ cl s H C ex,EE (bp X scope cl (own++fr) s H C ex) elt we) (hsc:X.env.scope = sc:=by rfl) (hps:ps.map (fun i=>X.N[i]?) = fr.map some:=by rfl) (hc:X.calm = true:=by rfl) (hs:∀ x,foldedSetIterable iter X.env x = pure x:=by intro _; rfl):EE X (.ListComp elt [⟨tg,iter,ifs,0⟩] scope pos) (jz wi own ps g tt we):=⟨xi S hi.h (fun cl s H C ex=>(hg cl s H C ex).h) (fun cl s H C ex=>(ht cl s H C ex).h) (fun cl s H C ex=>(he cl s H C ex).h) hsc hps hc hs⟩
theorem bz  : ETs X [] mw:=⟨zY⟩
theorem l5 {i:Nat} {y:Str} (S:b8 own fr scope sc) (hN:X.N.Nodup) (hy:X.N[i]? = some y) (hlc:X.env.scope.names.lookup y = some .local) (hi:EI X tg iter wi) (hg:∀ cl s H C ex,EG (bp X scope cl (own++fr) s H C ex) tg g) (ht:∀ cl s H C ex,ETs (bp X scope cl (own++fr) s H C ex) ifs tt) (he:∀ cl s H C ex,EE (bp X scope cl (own++fr) s H C ex) elt we) (hsw:swapsWith (.ListComp elt [⟨tg,iter,ifs,0⟩] scope pos) (some (.Name y py)) spos.line X.env = pure true:=by rfl) (hsc:X.env.scope = sc:=by rfl) (hps:ps.map (fun i=>X.N[i]?) = fr.map some:=by rfl) (hc:X.calm = true:=by rfl) (hs:∀ x,foldedSetIterable iter X.env x = pure x:=by intro _; rfl):ES X (.Assign [.Name y py] (.ListComp elt [⟨tg,iter,ifs,0⟩] scope pos) spos) (wSet i (jz wi own ps g tt we)):=⟨vm S hN hy hlc hi.h (fun cl s H C ex=>(hg cl s H C ex).h) (fun cl s H C ex=>(ht cl s H C ex).h) (fun cl s H C ex=>(he cl s H C ex).h) hsw hsc hps hc hs⟩
end
section
variable {X:Cx}
theorem am {a b:Expr} {wa wb:WE} {pos:Pos} (ha:EE X a wa) (hb:EE X b wb) (hs:iB b:=by intro _ _; rfl):EE X (.Subscript a b pos) (wBin lj wa wb):=⟨JQ ha.h hb.h hs⟩
end
section
variable {X:Cx} {o a b c e:Expr} {es:List Expr} {wo wa wb wc we wi:WE} {ws:WA} {pos apos cpos:Pos}
theorem d5 {name:Str} {id:String} {ob:WM} (slot:Slot "list" name id) (hty:typeOf (.builtin id) = pure (.type "method_descriptor")) (hm:MtM X id (mM X.kx ob)) (ho:EE X o wo) (ha:EA X (e :: es) ws) (hbase:attributeBase o name X.env (eval o X.env) = eval o X.env:=by rfl) (hfew:((backTo cpos (starEach (e :: es) X.env)).all (fun x=>!x.1) && (backToKw cpos (keywordEach [] X.env)).all (fun x=>x.1.isSome)
   && decide ((e :: es).length + ([]:List Keyword).length + (if ([]:List Keyword).isEmpty then 0 else 1) < 30)) = true:=by rfl) (hline:(apos.endLine == cpos.line) = true:=by rfl) (hs:starEach (e :: es) X.env = (false,eval e X.env) :: starEach es X.env:=by first | exact aD rfl | rfl) (hplain:(backTo cpos (starEach es X.env)).any (·.1) = false:=by rfl):EE X (.Call (.Attribute o name apos) (e :: es) [] cpos) (wML ob wo ws):=⟨JN slot hty hm ho.h ha.h hbase hfew hline hs hplain⟩
theorem ig {b i:Expr} {pos':Pos} (he:EE X e we) (ho:EE X b wo) (hi:EE X i wi) (hs:swapsWithSole [.Subscript b i pos'] e pos.line X.env = pure false:=by rfl) (hw:swappedStores [.Subscript b i pos'] e X.env = pure none:=by rfl) (h1:(assignEach [.Subscript b i pos'] X.env).map (·.2) = [assign (.Subscript b i pos') X.env]:=by rfl) (ha:∀ v,assign (.Subscript b i pos') X.env v = (do
   let ov ← holding [v] (eval b X.env)
   let iv ← holding [v,ov] (eval i X.env)
   standAt pos'
   holding [v,ov,iv] (setItem ov iv v)
   release [v,ov,iv] []):=by intro _; rfl):ES X (.Assign [.Subscript b i pos'] e pos) (za we wo wi):=⟨zH he.h ho.h hi.h hs hw h1 ha⟩
theorem cn  : EO X none mH:=⟨Ck⟩
theorem cp (he:EE X e we):EO X (some e) (Cc we):=⟨ze he.h⟩
theorem bV {lo hi:Option Expr} {wl wh:WO1} {p2:Pos} {ob:R→Option Int→Option Int→MSt→(R→Prop)→Prop} (hr:SlR X (sM X.kx ob)) (he:EE X e we) (hl:EO X lo wl) (hu:EO X hi wh):EE X (.Subscript e (.Slice lo hi none p2) pos) (wSl ob we wl wh):=⟨xy hr he.h hl.h hu.h⟩
end
section
variable {X:Cx} {a:Expr} {es:List Expr} {ws:WA} {pos p:Pos} {k n:Nat} {sp:SpM} {x:Str}
theorem mf' (F:FnM X.prog X.w X.K X.mg X.base x k n sp) (hr:Room k X.A) (ha:EA X (a :: es) ws) (hg:Gl X x:=by rfl) (hdb:(x == ("__debug__" : Str)) = false:=by decide) (he:starEach (a :: es) X.env = (false,eval a X.env) :: starEach es X.env:=by first | exact aD rfl | rfl) (hpl:(backTo pos (starEach es X.env)).any (·.1) = false:=by rfl):EE X (.Call (.Name x p) (a :: es) [] pos) (va sp ws):=⟨xP F hr ha.h hg hdb he hpl⟩
end
section
variable {X:Cx} {tg a b c e:Expr} {es:List Expr} {wo wa wb wc we wi:WE} {ws:WA} {pos p p2:Pos}
theorem nc {T:String} {x:Str} {f:String→Bool} (he:EE X e we) (hf:IsT T f) (hmi:X.mg "isinstance" = none) (hm:X.mg x = none) (hv:bootBuiltins x = some (.type T)) (hgi:Gl X "isinstance" := by rfl) (hg:Gl X x:=by rfl) (hn:x ≠ "__name__" := by decide) (hd:(x == ("__debug__" : Str)) = false:=by decide) (he1:starEach [e,.Name x p2] X.env = (false,eval e X.env) :: starEach [.Name x p2] X.env:=by rfl) (he2:starEach [.Name x p2] X.env = (false,eval (.Name x p2) X.env) :: starEach [] X.env:=by rfl) (hpl:(backTo pos (starEach [.Name x p2] X.env)).any (·.1) = false:=by rfl):EE X (.Call (.Name "isinstance" p) [e,.Name x p2] [] pos) (wIsT f we):=⟨Iq he.h hf hmi hm hv hgi hg hn hd he1 he2 hpl⟩
end
theorem aG {P:Program} {w:World} {K:PySem.W.Frag} {mg:Str→Option Value} {base:Heap} {x:Str} {st:Stmt} {N ps:List Str} {n nN k:Nat} {sp:SpM} (D:DefM K mg x st ps) (S:ak N ps (ab st)) (hn:ps.length = n) (hN:N.length = nN) (hle:n≤nN) (ar:∀ as Kc,sp as Kc→as.length = n)
  (hbody:∀ (cdv:Value) (A:Around) (outer:List Env) (s:Shared) (H:Hp) (E:XK) (f:Addr),Room k (A.deeper (envOfC x (ab st) s.heap.objs.size f cdv)) →
   ∃ ww,ESs (cxOf CX0 P w K mg base N x (ab st) f cdv A outer s H E).nox (bh st) ww∧∀ as Kc,as.length = n→sp as Kc→ww { nx:=fun m=>Kc (.imm .none) (m.os.take m.np),rt:=fun r m=>retK Kc m r } (cv nN as)) :
  FnM P w K mg base x (k + 1) n sp:=Km D S hn hN hle ar fun cdv A outer s H E f hr=>let ⟨ww,h1,h2⟩:=hbody cdv A outer s H E f hr; ⟨ww,h1.h,h2⟩
theorem A9 {P:Program} {w:World} {K:PySem.W.Frag} {mg:Str→Option Value} {base:Heap} {x:Str} {st:Stmt} {N ps:List Str} {n nN k:Nat} {sp:SpM} {f:Addr} {fd:FuncData} (F:Fun K x x st f fd) (S:ak N ps (ab st)) (hn:ps.length = n) (hN:N.length = nN) (hle:n≤nN)
  (hbody:∀ (cdv:Value) (A:Around) (outer:List Env) (s:Shared) (H:Hp) (E:XK) (f:Addr),Room k (A.deeper (envOfC x (ab st) s.heap.objs.size f cdv)) →
   ∃ ww,ESs (cxOf CX0 P w K mg base N x (ab st) f cdv A outer s H E).nox (bh st) ww∧∀ as Kc,as.length = n→sp as Kc→ww { nx:=fun m=>Kc (.imm .none) (m.os.take m.np),rt:=fun r m=>retK Kc m r } (cv nN as)) :
  FnOk P w K mg base CX0 (k + 1) f fd ps (spOf ⟨K,w⟩ n sp):=C6 F S hn hN hle fun cdv A outer s H E f hr=>let ⟨ww,h1,h2⟩:=hbody cdv A outer s H E f hr; ⟨ww,h1.h,h2⟩
end L2
namespace HT
open PySem PySem.Spec PyProof.Rows
section
variable {prog:Program} {w:World} {A:Around} {E:Value→Shared→Prop} {s:Shared}
theorem cut_whole {t sl:Addr} {items:Array Value} {vl vu:Value} {lo hi:Option Int} {Q:Value→Shared→Prop} (ht:IsTup s.heap t items) (hs:s.heap.IsSliceOf sl vl vu .none) (pl:IsPart vl lo) (pu:IsPart vu hi)
  (hw:sIx items.size 0 lo = 0∧sIx items.size items.size hi = items.size) (h:Q (.ref t) s):wpAny (model prog w) A (getItem (.ref t) (.ref sl)) Q E s:=by
 obtain ⟨os,hos,hcs,hds⟩:=id hs
 have hTs:s.TypeIs (.ref sl) "slice" := ⟨os,hos,hcs⟩
 unfold getItem
 try with_reducible refine wpAny_holding ?_
 first | (refine wpAny_bind (wpAny_pure ?_)) | skip
 refine wpAny_bind (wpAny_sequenceKey ht.typeIs (by decide) (wpAny_bind (wpAny_callSpecial?_slot (name:=Str.ofString "__getitem__") ht.typeIs PyProof.Rows.slot_tuple_getitem (wpAny_call_entry PyProof.Rows.slot_tuple_getitem ht.typeIs entry_tuple_getitem ?_ (args_tuple_getitem _ _)))))
 show wpAny _ _ (Builtin.Tuple.tupleItemsOf (.ref t) >>= _) _ _ s
 refine wpAny_bind (tupleItemsOf_ ht (wpAny_bind (wpAny_typeOf hTs ?_)))
 rw [if_pos (by decide)]
 refine wpAny_bind (dl hs pl pu ?_)
 have hyes:(((sIx items.size 0 lo:Nat):Int) == 0 && (1:Int) == 1 && (sIx items.size items.size hi - sIx items.size 0 lo) == items.size) = true:=by
  rw [hw.1,hw.2]; simp
 show wpAny _ _ (if (((sIx items.size 0 lo:Nat):Int) == 0 && (1:Int) == 1 && (sIx items.size items.size hi - sIx items.size 0 lo) == items.size) = true then _ else _) _ _ s
 rw [if_pos hyes]
 refine wpAny_bind ?_
 unfold Builtin.Tuple.tupleIsExact
 refine wpAny_bind (wpAny_typeOf ht.typeIs (wpAny_pure ?_))
 rw [if_pos (by rfl)]
 exact wpAny_bind (wpAny_rule (wpAny_pure ⟨_,rfl,wpAny_pure h⟩))
end
end HT
namespace L2
open PySem PySem.Spec PyProof.Rows
section
variable {X:Cx}
def oCut:R→Option Int→Option Int→MSt→(R→Prop)→Prop:=fun r lo hi m K=>(∃ ds,lsOf m r = some ds∧K (.new (cutD ds lo hi)))∨∃ ds,r = .imm (.tuple ds)∧K (.imm (.tuple (cutD ds lo hi)))
theorem c6:SlR X (sM X.kx oCut):=by
 intro pins s σ' H x v vl vu lo hi sl Q I rx hs pl pu hq
 obtain ⟨α,m,σ,H0,r,Kc,Rl,h,k | ⟨ds,rfl,k⟩,fin⟩:=hq
 ·exact yg pins s σ' H x v vl vu lo hi sl Q I rx hs pl pu ⟨α,m,σ,H0,r,Kc,Rl,h,k,fin⟩
 ·obtain ⟨a,xs,rfl,f,g⟩:=aY (show Den X.kx H (.tuple ds) x from h)
  by_cases hw:HT.sIx xs.length 0 lo = 0∧HT.sIx xs.length xs.length hi = xs.length
  ·cases rx
   obtain ⟨its,rv,ht,hz⟩:=I.tuple f
   have hlen:its.toArray.size = xs.length:=by rw [List.size_toArray]; exact rv.length.symm
   refine ⟨"tuple",_,PyProof.Rows.slot_tuple_getitem.lookup,ht.typeIs,?_⟩
   refine HT.cut_whole ht hs pl pu (by rw [hlen]; exact hw) ⟨.ref a,H,I,rfl,fin _ _ H k Rl (dj (cN f ?_)) (Frm.refl _ _)⟩
   have e:cutD ds lo hi = ds:=by
    unfold cutD
    rw [g.length,hw.1,hw.2,List.drop_zero,Nat.sub_zero,←g.length,List.take_length]
   rw [e]; exact g
  ·exact Dj pins s σ' H _ v vl vu lo hi sl Q I rx hs pl pu ⟨a,xs,rfl,f,hw,fun p hp=>fin _ _ _ k (Rl.lay hp) (dj (cN (SqT.of aC) ((qZ g lo hi).mono (aZ (.inl hp))))) (bR hp)⟩
theorem zG {m:MSt} {r:R} {lo hi:Option Int} {Kr:R→Prop} {ds:List PyData} (e:lsOf m r = some ds) (h:Kr (.new (cutD ds lo hi))):oCut r lo hi m Kr:=.inl ⟨ds,e,h⟩
theorem CN {m:MSt} {lo hi:Option Int} {Kr:R→Prop} {ds:List PyData} (h:Kr (.imm (.tuple (cutD ds lo hi)))):oCut (.imm (.tuple ds)) lo hi m Kr:=.inr ⟨ds,rfl,h⟩
theorem ug {ds:List PyData} (n:Nat):cutD ds none (some (n:Int)) = ds.take n:=by
 unfold cutD
 rw [HT.sIx_none,HT.sIx_nat,Nat.sub_zero,List.drop_zero]
 by_cases h:n≤ds.length
 ·rw [Nat.min_eq_left h]
 ·rw [Nat.min_eq_right (by omega),List.take_length,List.take_of_length_le (by omega)]
theorem lU {ds:List PyData} (n:Nat):cutD ds (some (n:Int)) none = ds.drop n:=by
 unfold cutD
 rw [HT.sIx_none,HT.sIx_nat]
 by_cases h:n≤ds.length
 ·rw [Nat.min_eq_left h,List.take_of_length_le (by rw [List.length_drop]; omega)]
 ·rw [Nat.min_eq_right (by omega),List.drop_length,List.drop_eq_nil_of_le (by omega),List.take_nil]
def oIn (neg:Bool):WO:=fun r1 r2 m K=>∃ d ds,asD m r1 = some d∧(asD m r2 = some (.list ds)∨asD m r2 = some (.tuple ds))∧d.canLay0 = true∧PyData.canLayAll0 ds = true∧d.depth≤60∧K (.imm (.bool (if neg then !ds.any (fun y=>PyData.eqv y d) else ds.any fun y=>PyData.eqv y d)))
theorem mh (hu:X.A.units + 64 < cLine):OpR X (compareOp .NotIn) (rM X.kx (oIn true)):=by
 rintro pins s σ' H x y v u Q I rx ry ⟨α,m,σ,H0,H1,r1,r2,Kc,Rl,h1,h2,⟨d,ds,e1,e2,c1,c2,dp,ho⟩,fin⟩
 obtain ⟨as,q1⟩:=h1.reads I Rl rx e1 (PyData.hasDict_of_canLay _ c1)
 have fin':EP X pins σ' Q (.bool (!ds.any fun y=>PyData.eqv y d)) s:=⟨.bl _,H,I,rfl,fin _ _ H ho Rl (je _) (Frm.refl _ _)⟩
 have hm:X.A.units + 1 + min (PyData.depthAll ds) d.depth < cLine:=by have:=Nat.min_le_right (PyData.depthAll ds) d.depth; omega
 rcases e2 with e2 | e2
 ·obtain ⟨bs,q2⟩:=h2.reads I Rl ry e2 (by simp only [PyData.hasDict]; exact PyData.hasDictAll_of_canLayAll _ c2)
  exact SeqAt.notIn_list_reads q2 q1 c2 c1 hm fin'
 ·obtain ⟨bs,q2⟩:=h2.reads I Rl ry e2 (by simp only [PyData.hasDict]; exact PyData.hasDictAll_of_canLayAll _ c2)
  exact SeqAt.notIn_tuple_reads q2 q1 c2 c1 hm fin'
theorem x_in {m:MSt} {r1 r2:R} {Kr:R→Prop} {neg:Bool} {d:PyData} {ds:List PyData} {k k':Nat} (e1:asD m r1 = some d) (e2:asD m r2 = some (.list ds)∨asD m r2 = some (.tuple ds)) (s1:Shp k d) (s2:∀ y∈ds,Shp k' y) (hk:k≤60) (h:Kr (.imm (.bool (if neg then !ds.any (fun y=>PyData.eqv y d) else ds.any fun y=>PyData.eqv y d)))):oIn neg r1 r2 m Kr :=
 ⟨d,ds,e1,e2,s1.cl,(gw s2).1,Nat.le_trans s1.dp hk,h⟩
def oMax:WC:=fun rs _ K=>match rs with | [.imm (.int i),.imm (.int j)]=>K (.imm (.int (if j > i then j else i))) | _=>False
theorem uU (hc:X.calm = true):b9 X (.builtin "max") (cM X.kx oMax):=by
 rintro pins s σ' H xs us Q I rv ⟨α,m,σ,H0,rs,Kc,Rl,h,ho,fin⟩
 match rs,h,ho with
 | [.imm (.int i),.imm (.int j)],.cons h1 (.cons h2 .nil),ho =>
  have e1:=au (show Den X.kx H (.int i) _ from h1)
  have e2:=au (show Den X.kx H (.int j) _ from h2)
  subst e1 e2
  exact uV hc pins s σ' H _ us Q I rv ⟨i,j,rfl,fin _ _ H ho Rl (cA _) (Frm.refl _ _)⟩
theorem Kl {m:MSt} {i j:Int} {Kr:R→Prop} (h:Kr (.imm (.int (if j > i then j else i)))):oMax [.imm (.int i),.imm (.int j)] m Kr:=h
def Jt (P:List PyData→Prop):R→Prop
 | .new ds=>P ds
 | _=>False
def tZ:WM:=fun r rs m K=>lH (fun k=>on1 (Jt fun es=>∃ ds,m.os[k]? = some ds∧ds.length + es.length≤sizeLine∧K (.imm .none) { m with os:=m.os.set k (ds++es) }) rs) r
theorem qk:MtM X "list.extend" (mM X.kx tZ):=by
 rintro pins s σ' H x xs v us Q I rx rv ⟨α,m,σ,H0,H1,r,rs,Kc,Rl,h1,h2,ho,fin⟩
 obtain ⟨k,a,rfl,ea,rfl,ho⟩:=n5 h1 ho
 obtain ⟨r2,v2,rfl,rfl,h2,ho⟩:=bO h2 ho
 cases r2 with
 | imm _=>exact ho.elim
 | obj _=>exact ho.elim
 | «at» _ _=>exact ho.elim
 | newT _=>exact ho.elim
 | new es =>
  obtain ⟨ds,e1,hz,ho⟩:=ho
  obtain ⟨b,zs,rfl,hb0,hb,gb⟩:=h2
  obtain ⟨ys,q,g⟩:=Rl.own _ _ ds ea e1
  obtain ⟨R2,F2⟩:=Rl.setO ea q (g.append gb)
  exact rb pins s σ' H _ _ v us Q I rx rv ⟨a,b,ys,zs,rfl,rfl,q,hb,by rw [←g.length,←gb.length]; exact hz,fin _ _ _ _ ho rfl R2 l7 F2⟩
theorem w9 {m:MSt} {k:Nat} {K:R→MSt→Prop} {ds es:List PyData} (e:m.os[k]? = some ds) (hz:ds.length + es.length≤sizeLine) (h:K (.imm .none) { m with os:=m.os.set k (ds++es) }):tZ (.obj k) [.new es] m K:=⟨ds,e,hz,h⟩
def yq:WM:=fun r rs m K=>on1 (cf fun d=>∃ ds j,lsOf m r = some ds∧d.canLay0 = true∧PyData.canLayAll0 ds = true∧d.depth≤60∧(∃ y,ds[j]? = some y∧PyData.eqv y d = true)∧(∀ (i:Nat) y,i < j→ds[i]? = some y→PyData.eqv y d = false)∧K (.imm (.int (j:Nat))) m) rs
theorem ll (hu:X.A.units + 64 < cLine):MtM X "list.index" (mM X.kx yq):=by
 rintro pins s σ' H x xs v us Q I rx rv ⟨α,m,σ,H0,H1,r,rs,Kc,Rl,h1,h2,ho,fin⟩
 obtain ⟨r2,v2,rfl,rfl,h2,ho⟩:=bO h2 ho
 obtain ⟨d,rfl,hd,ds,j,el,c1,c2,dp,⟨y,ey,eq⟩,hno,ho⟩:=cG h2 ho
 obtain ⟨a,zs,rfl,f,g⟩:=h1.list Rl el
 cases rx
 obtain ⟨u,rfl,ru⟩:=rv.one
 obtain ⟨bs,qd⟩:=Den.reads I (PyData.hasDict_of_canLay _ c1) hd ru
 obtain ⟨its,rvv,pl,hz⟩:=I.list f
 obtain ⟨o,n,ho1,hc,hdict⟩:=pl
 obtain ⟨as,rds⟩:=DenAll.reads I (PyData.hasDictAll_of_canLayAll _ c2) g rvv
 have hm:X.A.units + 1 + min (PyData.depthAll ds) d.depth < cLine:=by have:=Nat.min_le_right (PyData.depthAll ds) d.depth; omega
 have hmap:=SeqAt.readsAll_map ds _ _ c2 rds
 have hl:its.length = ds.length:=by rw [←hmap,List.length_map]
 have hj:j < its.length:=by rw [hl]; exact (List.getElem?_eq_some_iff.mp ey).1
 have ro:∀ (i:Nat) (hi:i < its.length) y,ds[i]? = some y→SeqAt.readOf s.heap its[i] = y:=fun i hi y e=>by
  rw [←hmap,List.getElem?_map,List.getElem?_eq_getElem hi] at e
  exact Option.some.inj e
 obtain ⟨cls,dd,data,sl⟩:=o
 obtain ⟨hdict,hdata⟩:=hdict
 dsimp only at hc hdata
 subst hc
 subst hdata
 have hsm:(j:Int) < 2 ^ 63 - 1:=by
  have h16:=hz
  rw [sizeLine_eq] at h16
  have:=rvv.length
  omega
 refine call_meets PySem.F.slot_list_index ⟨_,ho1,rfl⟩ PySem.F.entry_list_index (PySem.F.args_list_index_2 _ _)
  (SeqAt.list_indexAt a its.toArray _ dd sl u (fun y=>PyData.eqv (SeqAt.readOf s.heap y) d) j (by simpa using hj) hsm ?_ ?_) ⟨ho1,SeqAt.items_eqAt (by simpa using rds) qd c2 c1 hm,?_⟩
 ·show PyData.eqv (SeqAt.readOf s.heap its[j]) d = true
  rw [ro j hj y ey]; exact eq
 ·intro i hi hlt
  have hi':i < its.length:=by simpa using hi
  show PyData.eqv (SeqAt.readOf s.heap its[i]) d = false
  have hi2:i < ds.length:=by rw [←hl]; exact hi'
  rw [ro i hi' _ (List.getElem?_eq_getElem hi2)]
  exact hno i _ hlt (List.getElem?_eq_getElem hi2)
 ·exact ⟨.int (j:Nat),H,I.tok _,⟨_,rfl⟩,fin _ _ _ H ho rfl Rl (cA _) (Frm.refl _ _)⟩
theorem rq {m:MSt} {r:R} {d y:PyData} {ds:List PyData} {j k k':Nat} {K:R→MSt→Prop} (e:lsOf m r = some ds) (s1:Shp k d) (s2:∀ y∈ds,Shp k' y) (hk:k≤60) (ey:ds[j]? = some y) (eq:PyData.eqv y d = true) (hno:∀ (i:Nat) y,i < j→ds[i]? = some y→PyData.eqv y d = false) (h:K (.imm (.int (j:Nat))) m):yq r [.imm d] m K :=
 ⟨ds,j,e,s1.cl,(gw s2).1,Nat.le_trans s1.dp hk,⟨y,ey,eq⟩,hno,h⟩
end
theorem Inv.turneds {X:Cx} {pins:List (Addr×Obj)} {σ : St} {H:Hp} {s:Shared} {h':Heap} {t':Nat} {ch:List Addr} (I:Inv X pins σ H s) (k:∀ b o,b∉ch→s.heap.get? b = some o→h'.get? b = some o) (hf:∀ b∈ch,FpOk X pins H b):Inv X pins σ H { s with heap:=h',toks:=t' }:=by
 have nit:∀ b u,H b = some u→b∉ch:=fun b u e z=>by have:=(hf b z).1; rw [this] at e; cases e
 have nl:X.env.locals∉ch:=fun z=>(hf _ z).2.1 rfl
 refine I.step (g':=s.gens) (d':=s.drawn) (ch:=ch) (fun b hb=>?_) (fun b o _ _ hc e _=>k b o hc e) (fun b o _ _ hc e _=>⟨o.slots,k b o hc e⟩) (fun _ _ _ _ n=>n)
  (fun b o hc e=>⟨o,k b o hc e⟩) (fun _ _ e=>e) (fun _ _ _ e=>e) (fun b ps e=>⟨#[],by rw [e]; simp⟩) (fun m hm=>?_) (fun b u e=>?_) I.bare
 ·obtain ⟨_,f1,_,f3,f4,f5⟩:=hf b hb
  exact ⟨f3,f1,f4,f5⟩
 ·obtain ⟨o,es,ep,ho,r⟩:=hm
  exact ⟨o,es,ep,k _ o nl ho,r⟩
 ·refine (I.hok b u e).stay (fun c v hc q=>k c v ?_ q) (fun _ q=>q) fun _ _ q=>q
  rcases hc with z | z
  ·rw [z]; exact nit b u e
  ·exact nit c _ z
def SubI (t:Bool) (h:Heap) (i l:Addr) (k:Nat):Prop:=if t then h.IsTupleIter i l k else h.IsListIter i l k
def SubS (t:Bool) (h:Heap) (l:Addr) (its:Array Value):Prop:=if t then h.IsTuple l its else h.IsList l its
theorem SubI.ext {t:Bool} {h h':Heap} {b i l:Addr} {k:Nat} (x:SubI t h i l k) (e:Heap.ExtBut b h h') (n:i≠b):SubI t h' i l k:=by
 cases t
 ·exact Heap.IsListIter.extBut (show h.IsListIter i l k from x) e n
 ·exact Heap.IsTupleIter.extBut (show h.IsTupleIter i l k from x) e n
theorem SubI.obj {t:Bool} {h:Heap} {i l:Addr} {k:Nat} (x:SubI t h i l k):∃ o vs,h.get? i = some o∧o.data = .fields vs:=by
 cases t
 ·obtain ⟨o,e,_,d⟩:=(show h.IsListIter i l k from x); exact ⟨o,_,e,d⟩
 ·obtain ⟨o,e,_,d⟩:=(show h.IsTupleIter i l k from x); exact ⟨o,_,e,d⟩
theorem SubI.keep {t:Bool} {h h':Heap} {i l:Addr} {k:Nat} (x:SubI t h i l k) (e:∀ o,h.get? i = some o→h'.get? i = some o):SubI t h' i l k:=by
 cases t
 ·obtain ⟨o,q,r⟩:=(show h.IsListIter i l k from x); exact ⟨o,e o q,r⟩
 ·obtain ⟨o,q,r⟩:=(show h.IsTupleIter i l k from x); exact ⟨o,e o q,r⟩
theorem SubS.keep {t:Bool} {h h':Heap} {l:Addr} {its:Array Value} (x:SubS t h l its) (e:∀ o,h.get? l = some o→h'.get? l = some o):SubS t h' l its:=by
 cases t
 ·obtain ⟨o,q,r⟩:=(show h.IsList l its from x); exact ⟨o,e o q,r⟩
 ·obtain ⟨o,q,r⟩:=(show h.IsTuple l its from x); exact ⟨o,e o q,r⟩
theorem SubS.ext {t:Bool} {h h':Heap} {b l:Addr} {its:Array Value} (x:SubS t h l its) (e:Heap.ExtBut b h h') (n:l≠b):SubS t h' l its:=x.keep fun o q=>e l o n q
section
variable {prog:Program} {w:World} {A:Around} {E:Value→Shared→Prop} {s:Shared}
theorem vp {α : Type} {Q : α→Shared→Prop} (hh:A.handled = none) (h:∀ h' e,(∀ b o,s.heap.get? b = some o→h'.get? b = some o)→(∃ o,h'.get? e = some o∧o.cls = .type "StopIteration")→E (.ref e) { s with heap:=h' }) :
  wpAny (model prog w) A (do raiseNew (← newExc (.type "StopIteration") []):Sem α) Q E s:=by
 refine wpAny_bind (m:=newExc (.type "StopIteration") []) ?_
 refine wpAny_bind (m:=newTuple []) (wpAny_newObj_type ?_ (by size_fits))
 refine wpAny_bind (m:=firstArgMember (.type "StopIteration") []) (wpAny_of_eq (a:=Value.none) (by rfl) (wpAny_newObj_type ?_ (by size_fits)))
 refine wpAny_bind (m:=handled) (wpAny_handled ?_)
 rw [hh]
 refine wpAny_bind (wpAny_pure (wpAny_throw (h _ _ (fun b o q=>Heap.get?_push_of_some _ (Heap.get?_push_of_some _ q)) ⟨_,Heap.get?_push_size _ rfl,rfl⟩)))
theorem Ji {it l:Addr} {i:Nat} {Q:Value→Shared→Prop} (hit:s.heap.IsTupleIter it l i) (h:Q (.ref l) s):wpAny (model prog w) A (field (.ref it) 0) Q E s:=let ⟨_,ho,_,hd⟩:=hit; wpAny_field ho hd (x:=.ref l) rfl h
theorem Kj {it l:Addr} {i:Nat} {Q:Value→Shared→Prop} (hit:s.heap.IsTupleIter it l i) (h:Q (.int i 0) s):wpAny (model prog w) A (field (.ref it) 1) Q E s:=let ⟨_,ho,_,hd⟩:=hit; wpAny_field ho hd (x:=.int i 0) rfl h
theorem Jo {l:Addr} {items:Array Value} {Q:Option (Array Value)→Shared→Prop} (hl:s.heap.IsTuple l items) (h:Q (some items) s):wpAny (model prog w) A (seqItems? (.ref l)) Q E s:=let ⟨_,ho,_,_,hd⟩:=hl; wpAny_seqItems ho hd h
theorem pf {it l:Addr} {i:Nat} {items:Array Value} {Q:Option Value→Shared→Prop} (hit:s.heap.IsTupleIter it l i) (hl:s.heap.IsTuple l items)
  (hs:∀ x,items[i]? = some x→∀ h',h'.IsTupleIter it l (i + 1)→Heap.SameBut it s.heap h'→Q (some x) { s with heap:=h' })
  (hE:items[i]? = none→A.handled = none∧∀ h' e,Heap.ExtBut it s.heap h'→(∃ o,h'.get? e = some o∧o.cls = .type "StopIteration")→E (.ref e) { s with heap:=h' }) :
  wpAny (model prog w) A (callSpecial? (.ref it) "__next__" []) Q E s:=by
 refine wpAny_callSpecial?_slot (name:=Str.ofString "__next__") hit.typeIs F.slot_tuple_iterator_next (wpAny_call_entry F.slot_tuple_iterator_next hit.typeIs F.entry_tuple_iterator_next ?_ (F.args_tuple_iterator_next_1 _))
 wp_walk using Ji hit,Kj hit,Jo hl
 rcases id hit with ⟨o,ho,hc,hd⟩
 rw [Int.toNat_natCast]
 cases q:items[i]? with
 | some x =>
  have new:(s.heap.update it (Obj.mapFields (·.setIfInBounds 1 (rawInt ((i:Int) + 1))))).IsTupleIter it l (i + 1):=by
   refine ⟨_,Heap.get?_update_self _ ho (Obj.isFreed_of_fields (Obj.data_mapFields hd _)),?_,?_⟩
   ·exact (Obj.cls_mapFields ..).trans hc
   ·rw [Obj.data_mapFields hd]; simp [rawInt]
  exact wpAny_bind (m:=setField (.ref it) 1 _) (wpAny_setField ho hd (by simp) (wpAny_pure ⟨x,rfl,hs x q _ new (Heap.SameBut.update ..)⟩))
 | none =>
  obtain ⟨hh,hE⟩:=hE q
  refine wpAny_bind (m:=rule _) (wpAny_rule (wpAny_bind (m:=setField (.ref it) 0 _) (wpAny_setField ho hd (by simp) ?_)))
  exact vp (A:=A.in1) hh fun h' e k x=>hE h' e (fun b ob nb z=>k b ob ((Heap.SameBut.update ..).extBut b ob nb z)) x
theorem ic {t:Bool} {it l:Addr} {i:Nat} {items:Array Value} {x:Value} {Q:Value→Shared→Prop} (hit:SubI t s.heap it l i) (hl:SubS t s.heap l items) (hx:items[i]? = some x)
  (hQ:∀ h',SubI t h' it l (i + 1)→Heap.SameBut it s.heap h'→Q x { s with heap:=h' }):wpAny (model prog w) A (Builtin.SmallTypes.nextOf (.ref it)) Q E s:=by
 cases t with
 | false=>exact wpAny_nextOf_list_item (show s.heap.IsListIter it l i from hit) (show s.heap.IsList l items from hl) hx hQ
 | true=>exact wpAny_bind (m:=callSpecial? (.ref it) "__next__" []) (pf (show s.heap.IsTupleIter it l i from hit) (show s.heap.IsTuple l items from hl) (fun y ey h' a b=>by rw [hx] at ey; cases ey; exact wpAny_pure (hQ h' a b)) fun no=>by rw [hx] at no; cases no)
theorem mo {t:Bool} {it l:Addr} {i:Nat} {items:Array Value} {Q:Value→Shared→Prop} (hh:A.handled = none) (hit:SubI t s.heap it l i) (hl:SubS t s.heap l items) (hx:items[i]? = none)
  (hE:∀ h' e,Heap.ExtBut it s.heap h'→(∃ o,h'.get? e = some o∧o.cls = .type "StopIteration")→E (.ref e) { s with heap:=h' }):wpAny (model prog w) A (Builtin.SmallTypes.nextOf (.ref it)) Q E s:=by
 cases t with
 | false=>exact wpAny_nextOf_list_end hh (show s.heap.IsListIter it l i from hit) (show s.heap.IsList l items from hl) hx hE
 | true=>exact wpAny_bind (m:=callSpecial? (.ref it) "__next__" []) (pf (show s.heap.IsTupleIter it l i from hit) (show s.heap.IsTuple l items from hl) (fun y ey=>by rw [hx] at ey; cases ey) fun _=>⟨hh,hE⟩)
structure Apart (z TI TO i1 i2 l1 l2:Addr):Prop where
 d:[z,TI,TO,i1,i2].Nodup
 m1:l1∉[z,TI,TO,i1,i2]
 m2:l2∉[z,TI,TO,i1,i2]
theorem Apart.old {z TI TO i1 i2 l1 l2:Addr} (D:Apart z TI TO i1 i2 l1 l2):ZipApart z TI TO i1 i2 l1 l2:=by
 obtain ⟨d,m1,m2⟩:=D
 simp only [List.nodup_cons,List.mem_cons,List.not_mem_nil,not_or,or_false,List.nodup_nil,and_true,not_false_eq_true] at d m1 m2
 obtain ⟨⟨a1,a2,a3,a4⟩,⟨b1,b2,b3⟩,⟨c1,c2⟩,d1⟩:=d
 exact ⟨Ne.symm a1,Ne.symm a2,Ne.symm a3,Ne.symm a4,b1,b2,b3,c1,c2,d1,m1.1,m1.2.2.1,m1.2.2.2.1,m1.2.2.2.2,m2.1,m2.2.2.1,m2.2.2.2.1,m2.2.2.2.2⟩
structure wM (t1 t2:Bool) (z TI TO i1 i2 l1 l2:Addr) (k:Nat) (h:Heap):Prop where
 z:IsZip h z TI TO .none
 ti:IsPair h TI (.ref i1) (.ref i2)
 to:∃ a b,IsPair h TO a b
 s1:SubI t1 h i1 l1 k
 s2:SubI t2 h i2 l2 k
theorem zf0 {z TI TO:Addr} {f:Value} {Q:Value→Shared→Prop} (hz:IsZip s.heap z TI TO f) (h:Q f s):wpAny (model prog w) A (field (.ref z) 0) Q E s:=wpAny_field hz rfl (x:=f) rfl h
theorem zf2 {z TI TO:Addr} {f:Value} {Q:Value→Shared→Prop} (hz:IsZip s.heap z TI TO f) (h:Q (.bool false) s):wpAny (model prog w) A (field (.ref z) 2) Q E s:=wpAny_field hz rfl (x:=.bool false) rfl h
theorem zf3 {z TI TO:Addr} {f:Value} {Q:Value→Shared→Prop} (hz:IsZip s.heap z TI TO f) (h:Q (.ref TI) s):wpAny (model prog w) A (field (.ref z) 3) Q E s:=wpAny_field hz rfl (x:=.ref TI) rfl h
theorem wg {t1 t2:Bool} {z TI TO i1 i2 l1 l2:Addr} {k:Nat} {xs ys:Array Value} {x y:Value} {Q:Option Value→Shared→Prop} (D0:Apart z TI TO i1 i2 l1 l2) (Z:wM t1 t2 z TI TO i1 i2 l1 l2 k s.heap)
  (hl1:SubS t1 s.heap l1 xs) (hl2:SubS t2 s.heap l2 ys) (hx:xs[k]? = some x) (hy:ys[k]? = some y)
  (hQ:∀ h',IsZip h' z TI TO (rawInt s.heap.objs.size)→IsPair h' TO x y→SubI t1 h' i1 l1 (k + 1)→SubI t2 h' i2 l2 (k + 1)→IsPair h' s.heap.objs.size x y→h'.objs.size = s.heap.objs.size + 1 →
   (∀ c o,c∉[z,TO,i1,i2]→s.heap.get? c = some o→h'.get? c = some o)→Q (some (.ref s.heap.objs.size)) { s with heap:=h' }):wpAny (model prog w) A (pyNext (.ref z)) Q E s:=by
 have D:=D0.old
 obtain ⟨hz,hTI,⟨a,b,hTO⟩,h1,h2⟩:=Z
 have hT:s.TypeIs (.ref z) "zip" := (⟨_,hz,rfl⟩)
 unfold pyNext
 refine wpAny_bind (wpAny_attempt (wpAny_callSpecial?_slot (name:=Str.ofString "__next__") hT F.slot_zip_next (wpAny_call_entry F.slot_zip_next hT F.entry_zip_next ?_ (F.args_zip_next_1 _))))
 refine wpAny_bind (m:=field (.ref z) 2) (zf2 hz (wpAny_bind (m:=field (.ref z) 3) (zf3 hz (wpAny_bind (wpAny_seqItems hTI rfl ?_)))))
 refine wpAny_bind (m:=Builtin.SmallTypes.ownedTupleIsFree (.ref z)) (wpAny_bind (m:=field (.ref z) 0) (zf0 hz (wpAny_pure ?_)))
 simp only [if_true]
 refine wpAny_bind (wpAny_rule (wpAny_bind (wpAny_field hz rfl (x:=.ref TO) rfl (wpAny_bind (wpAny_setField_rec hz (by simp) fun g1 hz1 s1=>?_)))))
 replace hz1:IsZip g1 z TI TO .ellipsis:=hz1
 refine wpAny_bind ?_
 simp only [List.forIn_cons,List.forIn_nil,List.zipIdx_cons,List.zipIdx_nil]
 refine wpAny_bind (wpAny_bind (wpAny_onRaise (wpAny_bind (m:=Builtin.SmallTypes.nextOf (.ref i1)) ?_)))
 refine (ic (h1.ext s1.extBut D.i1z) (hl1.ext s1.extBut D.l1z) hx fun g2 n1 s2=>wpAny_pure ?_)
 have hTO2:IsPair g2 TO a b:=s2.extBut _ _ D.TOi1 (s1.extBut _ _ D.TOz hTO)
 refine wpAny_bind (wpAny_seqItems hTO2 rfl (wpAny_bind (wpAny_updateSeq_pair hTO2 fun g3 hTO3 s3=>?_)))
 replace hTO3:IsPair g3 TO x b:=hTO3
 refine wpAny_bind (wpAny_letGo (wpAny_pure (wpAny_bind (wpAny_bind (wpAny_onRaise ?_)))))
 refine wpAny_bind (m:=Builtin.SmallTypes.nextOf (.ref i2)) (ic (((h2.ext s1.extBut D.i2z).ext s2.extBut D.i12.symm).ext s3.extBut D.TOi2.symm) (((hl2.ext s1.extBut D.l2z).ext s2.extBut D.l2i1).ext s3.extBut D.l2TO) hy fun g4 n2 s4=>wpAny_pure ?_)
 have hTO4:IsPair g4 TO x b:=s4.extBut _ _ D.TOi2 hTO3
 refine wpAny_bind (wpAny_seqItems hTO4 rfl (wpAny_bind (wpAny_updateSeq_pair hTO4 fun g5 hTO5 s5=>?_)))
 replace hTO5:IsPair g5 TO x y:=hTO5
 refine wpAny_bind (wpAny_letGo (wpAny_pure (wpAny_pure (wpAny_bind (wpAny_seqItems hTO5 rfl (wpAny_bind (wpAny_newTuple ?_)))))))
 have hsz:g5.objs.size = s.heap.objs.size:=by rw [s5.1,s4.1,s3.1,s2.1,s1.1]
 have hz5:IsZip g5 z TI TO .ellipsis:=s5.extBut _ _ D.TOz.symm (s4.extBut _ _ D.i2z.symm (s3.extBut _ _ D.TOz.symm (s2.extBut _ _ D.i1z.symm hz1)))
 have k5:∀ c o,c∉[z,TO,i1,i2]→s.heap.get? c = some o→g5.get? c = some o:=fun c o hc e=>by
  simp only [List.mem_cons,List.not_mem_nil,not_or,or_false] at hc
  exact s5.extBut _ _ hc.2.1 (s4.extBut _ _ hc.2.2.2 (s3.extBut _ _ hc.2.1 (s2.extBut _ _ hc.2.2.1 (s1.extBut _ _ hc.1 e))))
 have n15:SubI t1 g5 i1 l1 (k + 1):=((n1.ext s3.extBut D.TOi1.symm).ext s4.extBut D.i12).ext s5.extBut D.TOi1.symm
 have n25:SubI t2 g5 i2 l2 (k + 1):=n2.ext s5.extBut D.TOi2.symm
 have zlt:z < g5.objs.size:=Heap.lt_size hz5
 refine wpAny_bind (m:=Builtin.SmallTypes.ownedTupleHandOut (.ref z) (.ref g5.objs.size)) ?_
 have hz6:IsZip (g5.push { cls:=.type "tuple",data:=.seq #[x,y] }) z TI TO .ellipsis:=Heap.get?_push_of_some _ hz5
 refine wpAny_bind (m:=setField (.ref z) 0 _) (wpAny_setField_rec hz6 (by simp) fun g7 hz7 s7=>?_)
 replace hz7:IsZip g7 z TI TO (rawInt g5.objs.size):=hz7
 refine wpAny_setField_rec hz7 (by simp) fun g8 hz8 s8=>?_
 replace hz8:IsZip g8 z TI TO (rawInt g5.objs.size):=hz8
 have up:∀ c o,c≠z→g5.get? c = some o→g8.get? c = some o:=fun c o c1 e=>s8.extBut _ _ c1 (s7.extBut _ _ c1 (Heap.get?_push_of_some _ e))
 have hT8:IsPair g8 g5.objs.size x y:=s8.extBut _ _ (Nat.ne_of_gt zlt) (s7.extBut _ _ (Nat.ne_of_gt zlt) (Heap.get?_push_size _ rfl))
 have z8:g8.objs.size = g5.objs.size + 1:=by rw [s8.1,s7.1,Heap.size_push]
 rw [hsz] at hz8 hT8 z8
 have fin:wpAny (model prog w) A (pure (some (Value.ref g5.objs.size))) Q E { s with heap:=g8 }:=by
  rw [hsz]
  exact wpAny_pure (hQ g8 hz8 (up _ _ D.TOz hTO5) (n15.keep fun o e=>up _ o D.i1z e) (n25.keep fun o e=>up _ o D.i2z e) hT8 z8 fun c o hc e=>up c o (fun q=>hc (by simp [q])) (k5 c o hc e))
 exact wpAny_pure ⟨_,rfl,fin⟩
theorem zd {t1 t2:Bool} {z TI TO i1 i2 l1 l2:Addr} {k:Nat} {xs ys:Array Value} {Q:Option Value→Shared→Prop} (hh:A.handled = none) (D0:Apart z TI TO i1 i2 l1 l2) (Z:wM t1 t2 z TI TO i1 i2 l1 l2 k s.heap)
  (hl1:SubS t1 s.heap l1 xs) (hl2:SubS t2 s.heap l2 ys) (hend:xs[k]? = none∨ys[k]? = none)
  (hQ:∀ h',(∀ c o,c∉[z,TO,i1,i2]→s.heap.get? c = some o→h'.get? c = some o)→Q none { s with heap:=h' }):wpAny (model prog w) A (pyNext (.ref z)) Q E s:=by
 have D:=D0.old
 obtain ⟨hz,hTI,⟨a,b,hTO⟩,h1,h2⟩:=Z
 have hT:s.TypeIs (.ref z) "zip" := (⟨_,hz,rfl⟩)
 have out:∀ {c:Addr},c∉[z,TO,i1,i2]→c≠z∧c≠TO∧c≠i1∧c≠i2:=fun hc=>by simpa only [List.mem_cons,List.not_mem_nil,not_or,or_false] using hc
 have fin:∀ h' e,(∀ c o,c∉[z,TO,i1,i2]→s.heap.get? c = some o→h'.get? c = some o)→(∃ o,h'.get? e = some o∧o.cls = .type "StopIteration") →
   wpAny (model prog w) A (do if ← isInstance (.ref e) (.type "StopIteration") then pure none else throw (.ref e):Sem (Option Value)) Q E { s with heap:=h' }:=fun h' e hk ⟨o,ho,hc⟩ =>
  wpAny_bind (wpAny_isInstance (T := "StopIteration") (b:=true) ⟨o,ho,hc⟩ isSubtype_stop (wpAny_pure (hQ _ hk)))
 unfold pyNext
 refine wpAny_bind (wpAny_attempt (wpAny_callSpecial?_slot (name:=Str.ofString "__next__") hT F.slot_zip_next (wpAny_call_entry F.slot_zip_next hT F.entry_zip_next ?_ (F.args_zip_next_1 _))))
 refine wpAny_bind (m:=field (.ref z) 2) (zf2 hz (wpAny_bind (m:=field (.ref z) 3) (zf3 hz (wpAny_bind (wpAny_seqItems hTI rfl ?_)))))
 refine wpAny_bind (m:=Builtin.SmallTypes.ownedTupleIsFree (.ref z)) (wpAny_bind (m:=field (.ref z) 0) (zf0 hz (wpAny_pure ?_)))
 simp only [if_true]
 refine wpAny_bind (wpAny_rule (wpAny_bind (wpAny_field hz rfl (x:=.ref TO) rfl (wpAny_bind (wpAny_setField_rec hz (by simp) fun g1 hz1 s1=>?_)))))
 replace hz1:IsZip g1 z TI TO .ellipsis:=hz1
 refine wpAny_bind ?_
 simp only [List.forIn_cons,List.forIn_nil,List.zipIdx_cons,List.zipIdx_nil]
 refine wpAny_bind (wpAny_bind (wpAny_onRaise (wpAny_bind (m:=Builtin.SmallTypes.nextOf (.ref i1)) ?_)))
 cases hx:xs[k]? with
 | none =>
  refine (mo hh (h1.ext s1.extBut D.i1z) (hl1.ext s1.extBut D.l1z) hx fun g2 e s2 he=>?_)
  obtain ⟨oe,hoe,hce⟩:=he
  have hz2:IsZip g2 z TI TO .ellipsis:=s2 _ _ D.i1z.symm hz1
  have hez:e≠z:=fun q=>by subst q; rw [hz2] at hoe; cases hoe; simp at hce
  refine wpAny_setField_rec hz2 (by simp) fun g3 _ s3=>fin g3 e (fun c o hc q=>?_) ⟨oe,s3.extBut _ _ hez hoe,hce⟩
  obtain ⟨c1,_,c3,_⟩:=out hc
  exact s3.extBut _ _ c1 (s2 _ _ c3 (s1.extBut _ _ c1 q))
 | some x =>
  have hy:ys[k]? = none:=by rcases hend with q | q; rw [hx] at q; cases q; exact q
  refine (ic (h1.ext s1.extBut D.i1z) (hl1.ext s1.extBut D.l1z) hx fun g2 n1 s2=>wpAny_pure ?_)
  have hTO2:IsPair g2 TO a b:=s2.extBut _ _ D.TOi1 (s1.extBut _ _ D.TOz hTO)
  refine wpAny_bind (wpAny_seqItems hTO2 rfl (wpAny_bind (wpAny_updateSeq_pair hTO2 fun g3 hTO3 s3=>?_)))
  refine wpAny_bind (wpAny_letGo (wpAny_pure (wpAny_bind (wpAny_bind (wpAny_onRaise ?_)))))
  refine wpAny_bind (m:=Builtin.SmallTypes.nextOf (.ref i2)) (mo hh (((h2.ext s1.extBut D.i2z).ext s2.extBut D.i12.symm).ext s3.extBut D.TOi2.symm) (((hl2.ext s1.extBut D.l2z).ext s2.extBut D.l2i1).ext s3.extBut D.l2TO) hy fun g4 e s4 he=>?_)
  obtain ⟨oe,hoe,hce⟩:=he
  have hz4:IsZip g4 z TI TO .ellipsis:=s4 _ _ D.i2z.symm (s3.extBut _ _ D.TOz.symm (s2.extBut _ _ D.i1z.symm hz1))
  have hez:e≠z:=fun q=>by subst q; rw [hz4] at hoe; cases hoe; simp at hce
  refine wpAny_setField_rec hz4 (by simp) fun g5 _ s5=>fin g5 e (fun c o hc q=>?_) ⟨oe,s5.extBut _ _ hez hoe,hce⟩
  obtain ⟨c1,c2,c3,c4⟩:=out hc
  exact s5.extBut _ _ c1 (s4 _ _ c4 (s3.extBut _ _ c2 (s2.extBut _ _ c3 (s1.extBut _ _ c1 q))))
end
def zit (t:Bool):String:=if t then "tuple_iterator" else "list_iterator"
abbrev itO (t:Bool) (l:Addr):Obj:={ cls:=.type (zit t),data:=.fields #[.ref l,.int 0 0] }
abbrev zA (t1:Bool) (h:Heap) (l1:Addr):Heap:=h.push (itO t1 l1)
abbrev zB (t1 t2:Bool) (h:Heap) (l1 l2:Addr):Heap:=(zA t1 h l1).push (itO t2 l2)
abbrev zC (t1 t2:Bool) (h:Heap) (l1 l2:Addr):Heap:=(zB t1 t2 h l1 l2).push { cls:=.type "tuple",data:=.seq #[.ref h.objs.size,.ref (zA t1 h l1).objs.size] }
abbrev zD (t1 t2:Bool) (h:Heap) (l1 l2:Addr):Heap:=(zC t1 t2 h l1 l2).push { cls:=.type "tuple",data:=.seq #[.none,.none] }
abbrev zE (t1 t2:Bool) (h:Heap) (l1 l2:Addr):Heap:=(zD t1 t2 h l1 l2).push { cls:=.type "zip",data:=.fields #[.none,.bool false,.bool false,.ref (zB t1 t2 h l1 l2).objs.size,.ref (zC t1 t2 h l1 l2).objs.size] }
theorem cq {prog:Program} {w:World} {A:Around} {E:Value→Shared→Prop} {s:Shared} {t:Bool} {l:Addr} {its:Array Value} {Q:Value→Shared→Prop} (h:SubS t s.heap l its)
  (hQ:Q (.ref s.heap.objs.size) { s with heap:=s.heap.push (itO t l) }):wpAny (model prog w) A (pyIter (.ref l)) Q E s:=by
 cases t
 ·exact wpAny_pyIter_list (show s.heap.IsList l its from h) hQ
 ·exact wpAny_pyIter_tuple (show s.heap.IsTuple l its from h) hQ
theorem zU (t1 t2:Bool) (l1 l2:Addr) (xs ys:Array Value) :
  Meets (Builtin.«zip.__new__» ⟨[.type "zip",.ref l1,.ref l2],[]⟩) (fun _ R s=>SubS t1 s.heap l1 xs∧SubS t2 s.heap l2 ys∧R (.ok (.ret (.ref (zD t1 t2 s.heap l1 l2).objs.size))) { s with heap:=zE t1 t2 s.heap l1 l2 }) :=
 .of_wp fun prog w A R s h=>by
  rcases s with ⟨hp,g,d,tk,os⟩
  rcases h with ⟨hl1,hl2,h⟩
  have hsub:=sub_zip
  have hL1:SubS t1 (Shared.heap ⟨hp,g,d,tk,os⟩) l1 xs:=hl1
  have hL2:SubS t2 (Shared.heap ⟨hp.push (itO t1 l1),g,d,tk,os⟩) l2 ys:=hl2.keep fun o e=>Heap.get?_push_of_some _ e
  wp_walk using cq hL1,cq hL2
  exact ⟨_,rfl,h⟩
section
variable {prog:Program} {w:World} {A:Around} {E:Value→Shared→Prop} {s:Shared}
theorem xj {t1 t2:Bool} {l1 l2:Addr} {xs ys:Array Value} {Q:Value→Shared→Prop} (hl1:SubS t1 s.heap l1 xs) (hl2:SubS t2 s.heap l2 ys)
  (h:∀ h',wM t1 t2 (s.heap.objs.size + 4) (s.heap.objs.size + 2) (s.heap.objs.size + 3) s.heap.objs.size (s.heap.objs.size + 1) l1 l2 0 h'→(∀ c o,s.heap.get? c = some o→h'.get? c = some o)→Q (.ref (s.heap.objs.size + 4)) { s with heap:=h' }):wpAny (model prog w) A (call (.type "zip") [.ref l1,.ref l2]) Q E s:=by
 refine callType_new F.called_zip (by decide) (F.typeCall_zip_2 _ _) (F.newCall_zip_2 _ _) (fun obj=>F.args_object_init_3 obj _ _) F.entry_zip_new (zU t1 t2 l1 l2 xs ys) ⟨hl1,hl2,?_⟩
 have z1:(zA t1 s.heap l1).objs.size = s.heap.objs.size + 1:=Heap.size_push ..
 have z2:(zB t1 t2 s.heap l1 l2).objs.size = s.heap.objs.size + 2:=by rw [Heap.size_push,z1]
 have z3:(zC t1 t2 s.heap l1 l2).objs.size = s.heap.objs.size + 3:=by rw [Heap.size_push,z2]
 have z4:(zD t1 t2 s.heap l1 l2).objs.size = s.heap.objs.size + 4:=by rw [Heap.size_push,z3]
 have up1:∀ c o,(zD t1 t2 s.heap l1 l2).get? c = some o→(zE t1 t2 s.heap l1 l2).get? c = some o:=fun c o e=>Heap.get?_push_of_some _ e
 have up2:∀ c o,(zC t1 t2 s.heap l1 l2).get? c = some o→(zE t1 t2 s.heap l1 l2).get? c = some o:=fun c o e=>up1 c o (Heap.get?_push_of_some _ e)
 have up3:∀ c o,(zB t1 t2 s.heap l1 l2).get? c = some o→(zE t1 t2 s.heap l1 l2).get? c = some o:=fun c o e=>up2 c o (Heap.get?_push_of_some _ e)
 have up4:∀ c o,(zA t1 s.heap l1).get? c = some o→(zE t1 t2 s.heap l1 l2).get? c = some o:=fun c o e=>up3 c o (Heap.get?_push_of_some _ e)
 have g5:(zE t1 t2 s.heap l1 l2).get? (s.heap.objs.size + 4) = some { cls:=.type "zip",data:=.fields #[.none,.bool false,.bool false,.ref (s.heap.objs.size + 2),.ref (s.heap.objs.size + 3)] }:=by
  rw [←z4,←z3,←z2]; exact Heap.get?_push_size _ rfl
 have g4:(zE t1 t2 s.heap l1 l2).get? (s.heap.objs.size + 3) = some { cls:=.type "tuple",data:=.seq #[.none,.none] }:=by
  rw [←z3]; exact up1 _ _ (Heap.get?_push_size _ rfl)
 have g3:(zE t1 t2 s.heap l1 l2).get? (s.heap.objs.size + 2) = some { cls:=.type "tuple",data:=.seq #[.ref s.heap.objs.size,.ref (s.heap.objs.size + 1)] }:=by
  rw [←z2,←z1]; exact up2 _ _ (Heap.get?_push_size _ rfl)
 have g2:(zE t1 t2 s.heap l1 l2).get? (s.heap.objs.size + 1) = some (itO t2 l2):=by
  rw [←z1]; exact up3 _ _ (Heap.get?_push_size _ rfl)
 have g1:(zE t1 t2 s.heap l1 l2).get? s.heap.objs.size = some (itO t1 l1):=up4 _ _ (Heap.get?_push_size _ rfl)
 have sub:∀ {t:Bool} {i l:Addr},(zE t1 t2 s.heap l1 l2).get? i = some (itO t l)→SubI t (zE t1 t2 s.heap l1 l2) i l 0:=fun {t i l} e=>by
  cases t
  ·exact ⟨_,e,rfl,rfl⟩
  ·exact ⟨_,e,rfl,rfl⟩
 show _∧_
 rw [z4]
 exact ⟨⟨_,g5,rfl⟩,h _ ⟨g5,g3,⟨_,_,g4⟩,sub g1,sub g2⟩ fun c o x=>up4 c o (Heap.get?_push_of_some _ x)⟩
end
theorem sy {n l1 l2:Nat} (h1:l1 < n) (h2:l2 < n):Apart (n + 4) (n + 2) (n + 3) n (n + 1) l1 l2 where
 d:=by
  show List.Nodup ([n + 4,n + 2,n + 3,n,n + 1]:List Nat)
  simp only [List.nodup_cons,List.mem_cons,List.not_mem_nil,or_false,not_or,List.nodup_nil,and_true,not_false_eq_true]; omega
 m1:=by
  show ¬ (l1∈([n + 4,n + 2,n + 3,n,n + 1]:List Nat))
  simp only [List.mem_cons,List.not_mem_nil,or_false,not_or]; omega
 m2:=by
  show ¬ (l2∈([n + 4,n + 2,n + 3,n,n + 1]:List Nat))
  simp only [List.mem_cons,List.not_mem_nil,or_false,not_or]; omega
def SqB (t:Bool) (K:PySem.W.Frag) (H:Hp) (a:Addr) (xs:List V):Prop:=if t then SqT K H a xs else SqL K H a xs
def Itz (t1 t2:Bool) (K:PySem.W.Frag) (a b:Addr):It where
 go:=fun i H=>∃ xs ys x y,SqB t1 K H a xs∧SqB t2 K H b ys∧xs[i]? = some x∧ys[i]? = some y
 yld:=fun i H v H'=>∃ T x y,v = .ref T∧H T = none∧H' = upd H T (.tup [x,y])∧(∀ xs,SqB t1 K H a xs→xs[i]? = some x)∧∀ ys,SqB t2 K H b ys→ys[i]? = some y
 stop:=fun i H=>∃ xs ys,SqB t1 K H a xs∧SqB t2 K H b ys∧(xs.length≤i∨ys.length≤i)
theorem Inv.sqb {X:Cx} {pins:List (Addr×Obj)} {σ : St} {H:Hp} {s:Shared} {t:Bool} {a:Addr} {xs:List V} (I:Inv X pins σ H s) (h:SqB t X.kx H a xs):∃ its:List Value,Vals xs its∧SubS t s.heap a its.toArray∧xs.length≤sizeLine:=by
 cases t
 ·obtain ⟨its,r,p,z⟩:=I.list (show SqL X.kx H a xs from h); exact ⟨its,r,p.isList,z⟩
 ·obtain ⟨its,r,p,z⟩:=I.tuple (show SqT X.kx H a xs from h); exact ⟨its,r,p,z⟩
theorem Inv.sqb_inj {X:Cx} {pins:List (Addr×Obj)} {σ : St} {H:Hp} {s:Shared} {t:Bool} {a:Addr} {xs ys:List V} (I:Inv X pins σ H s) (h:SqB t X.kx H a xs) (h':SqB t X.kx H a ys):xs = ys:=by
 cases t
 ·exact I.list_inj (show SqL X.kx H a xs from h) (show SqL X.kx H a ys from h')
 ·exact I.tuple_inj (show SqT X.kx H a xs from h) (show SqT X.kx H a ys from h')
theorem xz {P:Program} {w:World} {K:PySem.W.Frag} {elts:List Expr} {x1:Nat} {pos:Pos} {t1 t2:Bool} {a b z TI TO i1 i2:Addr} (D:Apart z TI TO i1 i2 a b):Turn P w K (.Tuple elts x1 pos) (Itz t1 t2 K a b) [z,TI,TO,i1,i2] z (fun i h=>wM t1 t2 z TI TO i1 i2 a b i h) where
 mem:=by simp
 obj:=fun i h st c hc=>by
  obtain ⟨hz,hTI,⟨u,v,hTO⟩,h1,h2⟩:=st
  simp only [List.mem_cons,List.not_mem_nil,or_false] at hc
  rcases hc with rfl | rfl | rfl | rfl | rfl
  ·exact ⟨_,hz,fun v q=>by cases q⟩
  ·exact ⟨_,hTI,fun v q=>by cases q⟩
  ·exact ⟨_,hTO,fun v q=>by cases q⟩
  ·obtain ⟨o,vs,e,d⟩:=h1.obj; exact ⟨o,e,fun v q=>by rw [d] at q; cases q⟩
  ·obtain ⟨o,vs,e,d⟩:=h2.obj; exact ⟨o,e,fun v q=>by rw [d] at q; cases q⟩
 keep:=fun i h h' st k=>by
  obtain ⟨hz,hTI,⟨u,v,hTO⟩,h1,h2⟩:=st
  exact ⟨k z (by simp) _ hz,k TI (by simp) _ hTI,⟨u,v,k TO (by simp) _ hTO⟩,h1.keep fun o e=>k i1 (by simp) o e,h2.keep fun o e=>k i2 (by simp) o e⟩
 item:=by
  intro X hP hw hK hc i pins s σ H E I hf st hg
  subst hP hw hK
  obtain ⟨xs,ys,x,y,hq1,hq2,hx,hy⟩:=hg
  obtain ⟨its1,rv1,p1,_⟩:=I.sqb hq1
  obtain ⟨its2,rv2,p2,_⟩:=I.sqb hq2
  obtain ⟨u1,e1,ru1⟩:=rv1.get hx
  obtain ⟨u2,e2,ru2⟩:=rv2.get hy
  refine wg D st p1 p2 (x:=u1) (y:=u2) (by simpa using e1) (by simpa using e2) fun h' a1 a2 a3 a4 a5 a6 a7=>⟨.ref s.heap.objs.size,rfl,?_⟩
  refine wpAny_letOwnedTupleGo_zip (s:={ s with heap:=h' }) a1 fun h2 b1 sb=>?_
  have hfT:H s.heap.objs.size = none:=I.hok.fresh (Nat.le_refl _)
  have sfp:∀ c∈[z,TI,TO,i1,i2],c < s.heap.objs.size:=fun c hc=>by
   obtain ⟨hz,hTI,⟨u,v,hTO⟩,h1,h2⟩:=st
   simp only [List.mem_cons,List.not_mem_nil,or_false] at hc
   rcases hc with rfl | rfl | rfl | rfl | rfl
   ·exact Heap.lt_size hz
   ·exact Heap.lt_size hTI
   ·exact Heap.lt_size hTO
   ·obtain ⟨o,vs,e,d⟩:=h1.obj; exact Heap.lt_size e
   ·obtain ⟨o,vs,e,d⟩:=h2.obj; exact Heap.lt_size e
  have nz:∀ c∈[z,TI,TO,i1,i2],c≠s.heap.objs.size:=fun c hc=>Nat.ne_of_lt (sfp c hc)
  have dd:=D.old
  have up:∀ c o,c≠z→h'.get? c = some o→h2.get? c = some o:=fun c o n e=>sb.extBut c o n e
  have T2:IsPair h2 s.heap.objs.size u1 u2:=up _ _ (Ne.symm (nz z (by simp))) a5
  have I0:Inv X pins σ (upd H s.heap.objs.size (.tup [x,y])) { s with heap:=s.heap.push { cls:=.type "tuple",data:=.seq #[u1,u2] },toks:=s.toks } :=
   I.laid (o:=.tup [x,y]) (fun c o e=>Heap.get?_push_of_some _ e) (Nat.le_refl _) ⟨by show 2≤sizeLine; rw [sizeLine_eq]; decide,[u1,u2],.cons ru1 (.cons ru2 .nil),PlainT.new _ _⟩
  have Il:Inv X pins σ (upd H s.heap.objs.size (.tup [x,y])) { s with heap:=h2,toks:=s.toks }:=by
   refine Inv.turneds (s:={ s with heap:=s.heap.push { cls:=.type "tuple",data:=.seq #[u1,u2] },toks:=s.toks }) (h':=h2) (t':=s.toks) (ch:=[z,TI,TO,i1,i2]) I0 (fun c o hc e=>?_) fun c hc=>?_
   ·rcases Heap.get?_push_cases e with ⟨rfl,rfl⟩ | e
    ·exact T2
    ·exact up c o (fun q=>hc (by simp [q])) (a7 c o (fun q=>hc (by simp only [List.mem_cons,List.not_mem_nil,or_false] at q ⊢; rcases q with q | q | q | q <;> simp [q])) e)
   ·obtain ⟨f0,f1⟩:=hf c hc
    exact ⟨by rw [av (nz c hc)]; exact f0,f1⟩
  refine ⟨.ref s.heap.objs.size,upd H s.heap.objs.size (.tup [x,y]),Il,rfl,⟨_,x,y,rfl,hfT,rfl,fun zs hz=>by rw [I.sqb_inj hz hq1]; exact hx,fun zs hz=>by rw [I.sqb_inj hz hq2]; exact hy⟩,⟨b1,up _ _ dd.TIz (a7 _ _ (by simp only [List.mem_cons,List.not_mem_nil,or_false,not_or]; exact ⟨dd.TIz,dd.TITO,dd.TIi1,dd.TIi2⟩) st.ti),⟨_,_,up _ _ dd.TOz a2⟩,a3.keep fun o e=>up _ o dd.i1z e,a4.keep fun o e=>up _ o dd.i2z e⟩,fun c hc=>?_⟩
  rw [av (nz c hc)]
  exact (hf c hc).1
 done:=by
  intro X hP hw hK hc i pins s σ H E I hf st hg
  subst hP hw hK
  obtain ⟨xs,ys,hq1,hq2,he⟩:=hg
  obtain ⟨its1,rv1,p1,_⟩:=I.sqb hq1
  obtain ⟨its2,rv2,p2,_⟩:=I.sqb hq2
  have l1:=rv1.length
  have l2:=rv2.length
  refine zd (I.ok.hd hc) D st p1 p2 (by rcases he with q | q; (left; simp; omega); (right; simp; omega)) fun h' hk=>⟨rfl,I.turneds (t':=s.toks) (ch:=[z,TI,TO,i1,i2]) (fun c o hc e=>hk c o (fun q=>hc (by simp only [List.mem_cons,List.not_mem_nil,or_false] at q ⊢; rcases q with q | q | q | q <;> simp [q])) e) hf⟩
 self:=fun _ _ _ _ _ st h=>wpAny_pyIter_zip st.z h
section
variable {X:Cx} {elts:List Expr} {x1:Nat} {tpos:Pos} {a b:Expr} {ws:WA} {p pos:Pos}
def iZip (K:PySem.W.Frag) (ta:TA):TI:=fun σ H Rq=>ta σ H fun vs H1=>∃ t1 t2 l1 l2,vs = [.ref l1,.ref l2]∧(∃ xs,SqB t1 K H1 l1 xs)∧(∃ ys,SqB t2 K H1 l2 ys)∧Rq (Itz t1 t2 K l1 l2) H1
theorem Cz:bootBuiltins "zip" = some (.type "zip"):=by decide +kernel
theorem Db {ta:TA} (hg:Gl X "zip") (hm:X.mg "zip" = none) (ha:PA X [a,b] ta) (hs:starEach [a,b] X.env = [(false,eval a X.env),(false,eval b X.env)]:=by first | exact (aD rfl).trans (congrArg _ (br rfl)) | rfl) (hs2:starEach [b] X.env = [(false,eval b X.env)]:=by first | exact br rfl | rfl):PI X (.Tuple elts x1 tpos) (.Call (.Name "zip" p) [a,b] [] pos) (iZip X.K ta):=by
 intro pins s σ H Rq I h
 refine Call_ (gH I hg hm Cz (PyProof.Rows.callWith_type1 (thn (ha pos pins s σ H _ I h) fun us s1 ⟨vs,H1,I1,r1,q1⟩=>?_) (by rw [hs,hs2]) (by rw [hs2]; rfl)))
 obtain ⟨t1,t2,l1,l2,e,⟨xs,h1⟩,⟨ys,h2⟩,q⟩:=q1
 subst e
 cases r1 with
 | cons r rr =>
  cases rr with
  | cons r' rr =>
   cases rr
   cases r
   cases r'
   obtain ⟨its1,rv1,p1,_⟩:=I1.sqb h1
   obtain ⟨its2,rv2,p2,_⟩:=I1.sqb h2
   refine xj p1 p2 fun h' Z hk=>?_
   refine wpAny_pyIter_zip Z.z ?_
   have lt:∀ {t:Bool} {l:Addr} {its:Array Value},SubS t s1.heap l its→l < s1.heap.objs.size:=fun {t l its} p=>by
    cases t
    ·obtain ⟨o,e,_⟩:=(show s1.heap.IsList l its from p); exact Heap.lt_size e
    ·obtain ⟨o,e,_⟩:=(show s1.heap.IsTuple l its from p); exact Heap.lt_size e
   refine ⟨s1.heap.objs.size + 4,_,_,_,H1,rfl,I1.kept (t':=s1.toks) hk,xz (sy (lt p1) (lt p2)),Z,fun c hc=>?_,q⟩
   have hle:s1.heap.objs.size≤c:=by
    have hc':c∈([s1.heap.objs.size + 4,s1.heap.objs.size + 2,s1.heap.objs.size + 3,s1.heap.objs.size,s1.heap.objs.size + 1]:List Nat):=hc
    simp only [List.mem_cons,List.not_mem_nil,or_false] at hc'
    rcases hc' with rfl | rfl | rfl | rfl | rfl <;> first | exact Nat.le_add_right _ _ | exact Nat.le_refl _
   exact I1.fpOk hle (I1.hok.fresh hle)
def imS:R→Option (Bool×List PyData)
 | .imm (.tuple ds)=>some (true,ds)
 | .imm (.list ds)=>some (false,ds)
 | _=>none
def zipD (ds es:List PyData):List PyData:=(ds.zip es).map fun p=>.tuple [p.1,p.2]
def Ba (ws:WA):WI:=fun m K=>ws m fun rs m'=>match rs with | [r1,r2]=>∃ t1 ds t2 es,imS r1 = some (t1,ds)∧imS r2 = some (t2,es)∧K ⟨zipD ds es,none⟩ m' | _=>False
theorem qW {K:Kd} {α : Al} {H0 H:Hp} {r:R} {v:V} {t:Bool} {ds:List PyData} (h:RelR K α H0 H r v) (e:imS r = some (t,ds)):∃ l xs,v = .ref l∧DenAll K H ds xs∧(SqB t K H l xs)∧∀ H1,Pers H H1→SqB t K H1 l xs:=by
 unfold imS at e
 split at e
 ·cases e
  obtain ⟨l,xs,e,f,g⟩:=aY (show Den K H (.tuple ds) v from h)
  exact ⟨l,xs,e,g,f,fun H1 p=>f.mono p⟩
 ·cases e
  have h':Den K H (.list ds) v:=h
  simp only [Den] at h'
  obtain ⟨l,xs,e,f,g⟩:=h'
  exact ⟨l,xs,e,g,f.sq,fun H1 p=>(f.mono p).sq⟩
 ·cases e
theorem dg (ds es:List PyData):(zipD ds es).length = min ds.length es.length:=by simp [zipD]
theorem oz {ds es:List PyData} {i:Nat} {d e:PyData} (h1:ds[i]? = some d) (h2:es[i]? = some e):(zipD ds es)[i]? = some (.tuple [d,e]):=by
 unfold zipD
 rw [List.getElem?_map,(List.getElem?_zip_eq_some (z:=(d,e))).mpr ⟨h1,h2⟩]; rfl
theorem wks_zip {K:Kd} {t1 t2:Bool} {l1 l2:Addr} {ds es:List PyData}:Wks K (Itz t1 t2 K l1 l2) (zipD ds es) fun H=>∃ xs ys,SqB t1 K H l1 xs∧SqB t2 K H l2 ys∧DenAll K H ds xs∧DenAll K H es ys where
 stop:=fun H ⟨xs,ys,q1,q2,g1,g2⟩=>⟨xs,ys,q1,q2,by rw [dg,←g1.length,←g2.length]; omega⟩
 go:=fun i H hi ⟨xs,ys,q1,q2,g1,g2⟩=>by
  rw [dg] at hi
  exact ⟨xs,ys,xs[i]'(by rw [←g1.length]; omega),ys[i]'(by rw [←g2.length]; omega),q1,q2,List.getElem?_eq_getElem _,List.getElem?_eq_getElem _⟩
 yld:=fun i H x H' hi ⟨xs,ys,q1,q2,g1,g2⟩ y=>by
  obtain ⟨T,u,v,rfl,hT,rfl,e1,e2⟩:=y
  obtain ⟨d,h1,k1⟩:=g1.get2 (e1 xs q1)
  obtain ⟨e,h2,k2⟩:=g2.get2 (e2 ys q2)
  have gr:∀ b o,H b = some o→upd H T (.tup [u,v]) b = some o:=fun b o q=>by rw [av (aU q hT)]; exact q
  have pe:Pers H (upd H T (.tup [u,v])):=⟨fun b xs q=>gr b _ q,fun b o u q=>gr b _ q⟩
  refine ⟨gr,_,oz h1 h2,?_⟩
  exact cN (SqT.of aC) (DenAll.cons (k1.mono pe) (DenAll.cons (k2.mono pe) DenAll.nil))
theorem GU (hm:X.mg "zip" = none) (ha:MA X [a,b] ws) (hg:Gl X "zip" := by rfl) (hs:starEach [a,b] X.env = [(false,eval a X.env),(false,eval b X.env)]:=by first | exact (aD rfl).trans (congrArg _ (br rfl)) | rfl) (hs2:starEach [b] X.env = [(false,eval b X.env)]:=by first | exact br rfl | rfl):MI X (.Tuple elts x1 tpos) (.Call (.Name "zip" p) [a,b] [] pos) (Ba ws):=(Db hg hm ha hs hs2).wk fun σ H Rq ⟨α,m,Kc,Rl,hw,fin⟩=>by
 refine ⟨α,m,_,Rl,hw,fun rs m' vs H' k n Rl' rr F=>?_⟩
 match rs,rr,k with
 | [r1,r2],.cons h1 (.cons h2 .nil),k =>
  obtain ⟨t1,ds,t2,es,e1,e2,k⟩:=k
  obtain ⟨l1,xs,rfl,g1,q1,p1⟩:=qW h1 e1
  obtain ⟨l2,ys,rfl,g2,q2,p2⟩:=qW h2 e2
  refine ⟨t1,t2,l1,l2,rfl,⟨xs,q1⟩,⟨ys,q2⟩,fin _ m' _ H' k n Rl' F ⟨fun H=>∃ xs ys,SqB t1 X.kx H l1 xs∧SqB t2 X.kx H l2 ys∧DenAll X.kx H ds xs∧DenAll X.kx H es ys∧(∀ H1,Pers H H1→SqB t1 X.kx H1 l1 xs)∧∀ H1,Pers H H1→SqB t2 X.kx H1 l2 ys,wks_zip.imp fun H ⟨xs,ys,a,b,c,d,_⟩=>⟨xs,ys,a,b,c,d⟩,⟨xs,ys,q1,q2,g1,g2,p1,p2⟩,fun Ha Hb ⟨xs,ys,a,b,c,d,pa,pb⟩ pe=>⟨xs,ys,pa Hb pe,pb Hb pe,c.mono pe,d.mono pe,fun H1 p=>pa H1 (pe.trans p),fun H1 p=>pb H1 (pe.trans p)⟩⟩⟩
theorem JU {m:MSt} {Ks:Src→MSt→Prop} (h:ws m fun rs m'=>match rs with | [r1,r2]=>∃ t1 ds t2 es,imS r1 = some (t1,ds)∧imS r2 = some (t2,es)∧Ks ⟨zipD ds es,none⟩ m' | _=>False):Ba ws m Ks:=h
end
theorem CJ {X:Cx} {elts:List Expr} {x1:Nat} {tpos:Pos} {a b:Expr} {ws:WA} {p pos:Pos} (hm:X.mg "zip" = none) (ha:EA X [a,b] ws) (hg:Gl X "zip" := by rfl) (hs:starEach [a,b] X.env = [(false,eval a X.env),(false,eval b X.env)]:=by first | exact (aD rfl).trans (congrArg _ (br rfl)) | rfl) (hs2:starEach [b] X.env = [(false,eval b X.env)]:=by first | exact br rfl | rfl):EI X (.Tuple elts x1 tpos) (.Call (.Name "zip" p) [a,b] [] pos) (Ba ws):=⟨GU hm ha.h hg hs hs2⟩
theorem bm {α β : Type} {xs:List α} {i:Nat} {x : α} (f : α→β) (h:xs[i]? = some x):(xs.take (i + 1)).map f = (xs.take i).map f++[f x]:=by
 rw [List.take_add_one,h,List.map_append]; rfl
theorem gmap {α β : Type} {xs:List α} {i:Nat} {y : β} {f : α→β} (h:(xs.map f)[i]? = some y):∃ x,xs[i]? = some x∧y = f x∧i < xs.length:=by
 rw [List.getElem?_map] at h
 cases q:xs[i]? with
 | none=>rw [q] at h; cases h
 | some x=>rw [q] at h; exact ⟨x,rfl,(Option.some.inj h).symm,(List.getElem?_eq_some_iff.mp q).1⟩
theorem cC {lo:Int} {n i:Nat} {d:PyData} (h:(ci lo n)[i]? = some d):i < n∧d = .int (lo + (i:Int)):=by
 have hi:i < n:=by
  have:=(List.getElem?_eq_some_iff.mp h).1
  rwa [aH] at this
 rw [gu hi] at h
 exact ⟨hi,(Option.some.inj h).symm⟩
theorem uh {n k:Nat} {P:MSt→Prop} {m:MSt} (ρ : List Nat) (m2:MSt) (N:Ren ρ (m.setV n (.obj k)) m2) (h:P m2):kr n P m (.obj k):=.inr ⟨ρ,m2,N,h⟩
theorem jE {n:Nat} {ds:List PyData} {P:MSt→Prop} {m:MSt} (ρ : List Nat) (m2:MSt) (N:Ren ρ { vs:=m.vs.set n (some (.obj m.os.length)),os:=m.os++[ds],np:=m.np } m2) (h:P m2):kr n P m (.new ds):=.inl (.inr ⟨ρ,m2,N,h⟩)
def RenO (ρ : List Nat) (o:Option R):Option R→Prop
 | none=>True
 | some r=>RenR ρ (some o) r
def RenVs (ρ : List Nat):List (Option R)→List (Option R)→Prop
 | o :: os,q :: qs=>RenO ρ o q∧RenVs ρ os qs
 | [],[]=>True
 | _,_=>False
theorem RenVs.len {ρ : List Nat}:∀ {os qs:List (Option R)},RenVs ρ os qs→qs.length = os.length
 | [],[],_=>rfl
 | _ :: _,_ :: _,h=>congrArg (· + 1) (RenVs.len h.2)
 | [],_ :: _,h=>h.elim
 | _ :: _,[],h=>h.elim
theorem RenVs.get {ρ : List Nat}:∀ {os qs:List (Option R)},RenVs ρ os qs→∀ (j:Nat) (r:R),qs[j]? = some (some r)→RenR ρ os[j]? r
 | o :: os,q :: qs,h,0,r,e=>by
  have e':q = some r:=by simpa using e
  subst e'
  exact h.1
 | o :: os,q :: qs,h,j + 1,r,e=>by simpa using RenVs.get h.2 j r (by simpa using e)
 | [],[],_,_,_,e=>by simp at e
 | [],_ :: _,h,_,_,_=>h.elim
 | _ :: _,[],h,_,_,_=>h.elim
theorem uT {ρ : List Nat} {m m2:MSt} (nd:decide ρ.Nodup = true) (lt:(ρ.all fun k=>Nat.blt k m.os.length) = true) (pre : ρ.take m.np = List.range m.np) (npl:Nat.ble m.np ρ.length = true) (os:m2.os = ρ.map fun k=>m.os.getD k []) (np:m2.np = m.np) (vs:RenVs ρ m.vs m2.vs):Ren ρ m m2 :=
 ⟨of_decide_eq_true nd,fun k hk=>Nat.blt_eq.mp (List.all_eq_true.mp lt k hk),pre,Nat.le_of_ble_eq_true npl,os,np,vs.len,fun j r e=>vs.get j r e⟩
theorem BI {ds es:List PyData} {i:Nat} {d:PyData} (h:(zipD ds es)[i]? = some d):∃ a b,ds[i]? = some a∧es[i]? = some b∧d = .tuple [a,b]:=by
 obtain ⟨p,h1,rfl,_⟩:=gmap h
 obtain ⟨h2,h3⟩:=List.getElem?_zip_eq_some.mp h1
 exact ⟨p.1,p.2,h2,h3,rfl⟩
theorem AD {x:Str} (h:(PyData.str x).canLay0 = true):Shp 0 (.str x):=⟨h,Nat.le_refl _⟩
end L2
namespace M3
def stepL (xs:List (List Nat)) (r:Nat):List (List Nat):=xs.flatMap fun a=>(List.range (r + 1)).map fun k=>a++[k]
def allL (rs:List Nat):List (List Nat):=rs.foldl stepL [[]]
def allR:List Nat→List (List Nat)
 | []=>[[]]
 | r :: rs=>(List.range (r + 1)).flatMap fun k=>(allR rs).map (k :: ·)
theorem lm:∀ (rs:List Nat) (xs:List (List Nat)),rs.foldl stepL xs = xs.flatMap fun a=>(allR rs).map (a++·)
 | [],xs=>by
  simp [allR]
 | r :: rs,xs=>by
  rw [List.foldl_cons,lm rs]
  simp only [stepL,allR,List.flatMap_assoc,List.map_flatMap,List.flatMap_map,List.map_map]
  congr 1
  funext a
  congr 1
  funext k
  congr 1
  funext l
  simp
theorem allL_eq (rs:List Nat):allL rs = allR rs:=by
 unfold allL
 rw [lm]
 simp
theorem allR_len:∀ {rs l:List Nat},l∈allR rs→l.length = rs.length
 | [],l,h=>by simp [allR] at h; subst h; rfl
 | r :: rs,l,h=>by
  simp only [allR,List.mem_flatMap,List.mem_map] at h
  obtain ⟨k,_,l',h,rfl⟩:=h
  simp [allR_len h]
theorem stepL_length (xs:List (List Nat)) (r:Nat):(stepL xs r).length = xs.length * (r + 1):=by
 unfold stepL
 induction xs with
 | nil=>simp
 | cons a xs ih =>
  rw [List.flatMap_cons,List.length_append,ih,List.length_map,List.length_range,List.length_cons,Nat.succ_mul]
  omega
theorem oY:∀ {rs:List Nat} {xs:List (List Nat)},(∀ r∈rs,r≤6)→(rs.foldl stepL xs).length≤xs.length * 7 ^ rs.length
 | [],xs,_=>by simp
 | r :: rs,xs,h=>by
  rw [List.foldl_cons]
  refine Nat.le_trans (oY fun r' h'=>h r' (List.mem_cons_of_mem _ h')) ?_
  rw [stepL_length,List.length_cons,Nat.pow_succ,Nat.mul_assoc,Nat.mul_comm (7 ^ rs.length)]
  refine Nat.mul_le_mul_left _ (Nat.mul_le_mul_right _ ?_)
  have:=h r List.mem_cons_self
  omega
theorem fold_small {rs:List Nat} (h4:rs.length≤4) (h:∀ r∈rs,r≤6):(rs.foldl stepL [[]]).length≤2401:=by
 refine Nat.le_trans (oY h) ?_
 have : 7 ^ rs.length≤7 ^ 4:=Nat.pow_le_pow_right (by decide) h4
 simpa using this
theorem stepL_take {xs:List (List Nat)} {r j:Nat} {l:List Nat} (h:xs[j]? = some l):stepL (xs.take (j + 1)) r = stepL (xs.take j) r++(List.range (r + 1)).map fun y=>l++[y]:=by
 unfold stepL
 rw [List.take_add_one,h,List.flatMap_append]
 simp
end M3
set_option maxHeartbeats 4100000
namespace K
open PySem L2
def wN:SpM:=fun as K=>∃ ns:List Int,as = [.imm (.list (ns.map .int))]∧ns.length≤63∧K (.imm (.bool true)) []
def frD (a b:Int):PyData:=.tuple [.int a,.int b]
def Ij:SpM:=fun as K=>∃ a b:Nat,as = [.imm (.int a),.imm (.int b)]∧a < 1000000000∧0 < b∧b < 1000000000∧K (.imm (frD (a / a.gcd b:Nat) (b / a.gcd b:Nat))) []
structure Srv where
 a:Nat
 b:Nat
 r:Nat
def Srv.d (s:Srv):PyData:=.tuple [.tuple [.int s.a,.int s.b],.int s.r]
structure Srv.Ok (s:Srv):Prop where
 a1 : 1≤s.a
 a2:s.a < 1000000
 b1 : 1≤s.b
 b2:s.b < 1000000
 r1 : 1≤s.r
 r6:s.r≤6
structure Hall where
 a:Nat
 b:Nat
 ss:List Srv
 mv:Bool
def Hall.d (h:Hall):PyData:=.tuple [.tuple [.int h.a,.int h.b],.tuple (h.ss.map Srv.d),.bool h.mv]
structure Hall.Ok (h:Hall):Prop where
 a1 : 1≤h.a
 a2:h.a < 1000000
 b1 : 1≤h.b
 b2:h.b < 1000000
 n1 : 1≤h.ss.length
 n4:h.ss.length≤4
 ok:∀ s∈h.ss,s.Ok
def Hall.rs (h:Hall):List Nat:=h.ss.map Srv.r
theorem Hall.rsl (h:Hall):h.rs.length = h.ss.length:=by simp [Hall.rs]
theorem Hall.rs_get {h:Hall} {i:Nat} {s:Srv} (e:h.ss[i]? = some s):h.rs[i]? = some s.r:=by simp [Hall.rs,e]
def prD (p:Nat×Nat):PyData:=.tuple [.int (p.1:Int),.int (p.2:Int)]
def natD (l:List Nat):List PyData:=l.map fun (k:Nat)=>.int (k:Int)
def lnD (l:List Nat):PyData:=.tuple (natD l)
theorem aB (l:List Nat):(natD l).length = l.length:=by simp [natD]
theorem ba {l:List Nat} {i x:Nat} (h:l[i]? = some x):(natD l)[i]? = some (.int (x:Int)):=by simp [natD,h]
theorem oH (a b:List Nat):natD (a++b) = natD a++natD b:=by simp [natD]
theorem rQ {l:List Nat} {c:Nat} (hl:l.length≤c) (h:∀ x∈l,x≤1000):Fine (c * 15 + 3) 1 (lnD l):=by
 refine cY (n:=13) (k:=0) (c:=c) (fun d hd=>?_) (by simpa [natD] using hl)
 simp [natD] at hd
 obtain ⟨x,hx,rfl⟩:=hd
 have:=h x hx
 exact pz (by omega)
inductive Rule where
 | random | turns | two | least | quick
 | told (ps:List Nat)
def Rule.word:Rule→Str
 | .random => "random" | .turns => "turns" | .two => "two" | .least => "least" | .quick => "quick" | .told _ => "told"
def Rule.d:Rule→PyData
 | .told ps=>.tuple [.str "told",lnD ps]
 | r=>.tuple [.str r.word]
def Rule.Ok (h:Hall):Rule→Prop
 | .told ps=>ps.length = (M3.allR h.rs).length∧∀ p∈ps,p < h.ss.length
 | _=>True
def Lines (h:Hall) (l:List Nat):Prop:=l.length = h.ss.length∧∀ (i:Nat) s x,h.ss[i]? = some s→l[i]? = some x→x≤s.r
theorem Lines.le {h:Hall} {l:List Nat} (o:h.Ok) (k:Lines h l):∀ x∈l,x≤6:=fun x hx=>by
 obtain ⟨i,hi,rfl⟩:=List.mem_iff_getElem.mp hx
 have hi':i < h.ss.length:=by rw [←k.1]; exact hi
 have:=k.2 i _ _ (List.getElem?_eq_getElem hi') (List.getElem?_eq_getElem hi)
 have:=(o.ok _ (List.getElem_mem hi')).r6
 omega
end K
namespace M7
open M3
def placeF:Nat→List Nat→List Nat→Nat
 | acc,r :: rs,x :: l=>placeF (acc * (r + 1) + x) rs l
 | acc,_,_=>acc
def cnt:List Nat→Nat
 | []=>1
 | r :: rs=>(r + 1) * cnt rs
theorem allR_cnt:∀ rs:List Nat,(allR rs).length = cnt rs
 | []=>rfl
 | r :: rs=>by
  have ih:=allR_cnt rs
  have:∀ n:Nat,((List.range n).flatMap fun k=>(allR rs).map (k :: ·)).length = n * cnt rs:=by
   intro n
   induction n with
   | zero=>simp
   | succ n ihn=>rw [List.range_succ,List.flatMap_append,List.length_append,ihn]; simp [ih,Nat.succ_mul]
  exact this (r + 1)
theorem f7:∀ {rs l:List Nat} {acc:Nat},l.length = rs.length→placeF acc rs l = acc * cnt rs + placeF 0 rs l
 | [],[],acc,_=>by simp [placeF,cnt]
 | r :: rs,x :: l,acc,h=>by
  have h':l.length = rs.length:=by simpa using h
  simp only [placeF,cnt]
  rw [f7 h',f7 (acc:=0 * (r + 1) + x) h',Nat.add_mul,Nat.mul_assoc]
  simp [Nat.add_assoc]
 | [],_ :: _,_,h=>by simp at h
 | _ :: _,[],_,h=>by simp at h
theorem nU {r x:Nat} {rs l:List Nat} (h:l.length = rs.length):placeF 0 (r :: rs) (x :: l) = x * cnt rs + placeF 0 rs l:=by
 simp only [placeF]
 rw [f7 h]
 simp
def Fits:List Nat→List Nat→Prop
 | r :: rs,x :: l=>x≤r∧Fits rs l
 | [],[]=>True
 | _,_=>False
theorem Fits.len:∀ {rs l:List Nat},Fits rs l→l.length = rs.length
 | [],[],_=>rfl
 | _ :: _,_ :: _,h=>congrArg (· + 1) h.2.len
 | [],_ :: _,h=>h.elim
 | _ :: _,[],h=>h.elim
theorem place_lt:∀ {rs l:List Nat},Fits rs l→placeF 0 rs l < cnt rs
 | [],[],_=>by simp [placeF,cnt]
 | r :: rs,x :: l,h=>by
  rw [nU h.2.len,cnt]
  have:=place_lt h.2
  have h2:=Nat.mul_le_mul_right (cnt rs) (show x + 1≤r + 1 by have:=h.1; omega)
  rw [Nat.succ_mul] at h2
  omega
 | [],_ :: _,h=>h.elim
 | _ :: _,[],h=>h.elim
def pick (lt:Nat→Nat→Bool):Nat→List Nat→Nat
 | b,[]=>b
 | b,k :: ks=>pick lt (if lt k b then k else b) ks
theorem oi {lt:Nat→Nat→Bool}:∀ {ks:List Nat} {b:Nat},pick lt b ks = b∨pick lt b ks∈ks
 | [],b=>.inl rfl
 | k :: ks,b=>by
  simp only [pick]
  rcases oi (lt:=lt) (ks:=ks) (b:=if lt k b then k else b) with h | h
  ·rw [h]
   by_cases q:lt k b = true
   ·rw [if_pos q]; exact .inr List.mem_cons_self
   ·rw [if_neg q]; exact .inl rfl
  ·exact .inr (List.mem_cons_of_mem _ h)
theorem pick_app {lt:Nat→Nat→Bool}:∀ {ks:List Nat} {b k:Nat},pick lt b (ks++[k]) = if lt k (pick lt b ks) then k else pick lt b ks
 | [],b,k=>rfl
 | j :: ks,b,k=>by simp only [List.cons_append,pick]; exact pick_app
theorem placeF_take:∀ {rs l:List Nat} {i acc r x:Nat},rs[i]? = some r→l[i]? = some x→placeF acc (rs.take (i + 1)) (l.take (i + 1)) = placeF acc (rs.take i) (l.take i) * (r + 1) + x
 | r0 :: rs,x0 :: l,0,acc,r,x,h1,h2=>by
  have e1:r0 = r:=by simpa using h1
  have e2:x0 = x:=by simpa using h2
  subst e1 e2
  simp [placeF]
 | r0 :: rs,x0 :: l,i + 1,acc,r,x,h1,h2=>by
  simp only [List.take_succ_cons,placeF]
  exact placeF_take (by simpa using h1) (by simpa using h2)
 | [],_,_,_,_,_,h1,_=>by simp at h1
 | _ :: _,[],_,_,_,_,_,h2=>by simp at h2
end M7
namespace K
open PySem L2 M7
def Hall.an (h:Hall) (k:Nat):Nat:=(h.ss.map Srv.a).getD k 0
def Hall.bn (h:Hall) (k:Nat):Nat:=(h.ss.map Srv.b).getD k 0
def cw (l:List Nat) (k b:Nat):Bool:=decide (l.getD k 0 < l.getD b 0)
def cb (h:Hall) (l:List Nat) (k b:Nat):Bool:=decide ((l.getD k 0 + 1) * h.bn k * h.an b < (l.getD b 0 + 1) * h.bn b * h.an k)
def sent (h:Hall) (r:Rule) (l:List Nat) (t:Nat) (o:List Nat):Nat:=match r with
 | .random=>o.headD 0
 | .turns=>t
 | .two=>pick (cw l) (o.headD 0) (o.take 2)
 | .least=>pick (cw l) (o.headD 0) o
 | .quick=>pick (cb h l) (o.headD 0) o
 | .told ps=>ps.getD (placeF 0 h.rs l) 0
structure Ord (n:Nat) (o:List Nat):Prop where
 ne:o≠[]
 lt:∀ k∈o,k < n
 le:o.length≤4
theorem Lines.fits {h:Hall} {l:List Nat} (k:Lines h l):Fits h.rs l:=by
 obtain ⟨k1,k2⟩:=k
 unfold Hall.rs
 generalize h.ss = ss at k1 k2
 induction ss generalizing l with
 | nil=>cases l with
  | nil=>trivial
  | cons _ _=>simp at k1
 | cons s ss ih=>cases l with
  | nil=>simp at k1
  | cons x l=>exact ⟨k2 0 s x rfl rfl,ih (by simpa using k1) fun i s x e1 e2=>k2 (i + 1) s x (by simpa using e1) (by simpa using e2)⟩
theorem getN {l:List Nat} {k n:Nat} (hl:l.length = n) (hk:k < n):l[k]? = some (l.getD k 0):=by
 rw [bF (List.getElem?_eq_getElem (show k < l.length by omega))]
 exact List.getElem?_eq_getElem _
theorem Hall.srv {h:Hall} {k:Nat} (hk:k < h.ss.length):∃ s,h.ss[k]? = some s∧h.an k = s.a∧h.bn k = s.b∧s∈h.ss:=by
 refine ⟨h.ss[k],List.getElem?_eq_getElem hk,?_,?_,List.getElem_mem hk⟩
 ·exact bF (by rw [List.getElem?_map,List.getElem?_eq_getElem hk]; rfl)
 ·exact bF (by rw [List.getElem?_map,List.getElem?_eq_getElem hk]; rfl)
def yi:SpM:=fun as K=>∃ a b c d:Nat,as = [.imm (frD a b),.imm (frD c d)]∧a < 1000000000000∧b < 1000000000000∧c < 1000000000000∧d < 1000000000000∧K (.imm (.bool (decide (a * d < c * b)))) []
def uW:SpM:=fun as K=>∃ (h:Hall) (l:List Nat),as = [.imm h.d,.imm (lnD l)]∧h.Ok∧Lines h l∧K (.imm (.int (placeF 0 h.rs l:Nat))) []
def jK:SpM:=fun as K=>∃ (l o:List Nat),as = [.imm (lnD l),.imm (lnD o)]∧Ord l.length o∧K (.imm (.int (pick (cw l) (o.headD 0) o:Nat))) []
def y4:SpM:=fun as K=>∃ (h:Hall) (l:List Nat) (k:Nat),as = [.imm h.d,.imm (lnD l),.imm (.int (k:Int))]∧h.Ok∧Lines h l∧k < h.ss.length∧K (.imm (frD ((l.getD k 0 + 1) * h.bn k:Nat) (h.an k:Nat))) []
def jq:SpM:=fun as K=>∃ (h:Hall) (l o:List Nat),as = [.imm h.d,.imm (lnD l),.imm (lnD o)]∧h.Ok∧Lines h l∧Ord h.ss.length o∧K (.imm (.int (pick (cb h l) (o.headD 0) o:Nat))) []
def stD (l:List Nat) (t:Nat):PyData:=.tuple [lnD l,.int (t:Int)]
def ou:SpM:=fun as K=>∃ (h:Hall) (r:Rule) (l:List Nat) (t:Nat) (o:List Nat),as = [.imm h.d,.imm r.d,.imm (stD l t),.imm (lnD o)]∧h.Ok∧r.Ok h∧Lines h l∧Ord h.ss.length o∧K (.imm (.int (sent h r l t o:Nat))) []
theorem Ord.cons {n:Nat} {o:List Nat} (h:Ord n o):∃ k ks,o = k :: ks∧k < n:=by
 cases o with
 | nil=>exact (h.ne rfl).elim
 | cons k ks=>exact ⟨k,ks,rfl,h.lt k List.mem_cons_self⟩
theorem iM {lt:Nat→Nat→Bool} {n:Nat} {o:List Nat} (h:Ord n o) (i:Nat):pick lt (o.headD 0) (o.take i) < n:=by
 obtain ⟨k,ks,rfl,hk⟩:=h.cons
 rcases oi (lt:=lt) (ks:=(k :: ks).take i) (b:=k) with e | e
 ·show pick lt k _ < n
  rw [e]; exact hk
 ·exact h.lt _ (List.mem_of_mem_take e)
def Rule.tl:Rule→List PyData
 | .told ps=>[lnD ps]
 | _=>[]
theorem Rule.dc (r:Rule):r.d = .tuple (.str r.word :: r.tl):=by cases r <;> rfl
theorem c7 {m:MSt} {Kr:R→Prop} {d x:PyData} {ds:List PyData} {i:Int} (e:d = .tuple ds) (h:atI ds i = some x) (k:Kr (.imm x)):lj (.imm d) (.imm (.int i)) m Kr:=by
 subst e; exact bM h k
end K
namespace L2
open PySem PySem.Spec PyProof.Rows
theorem tj {prog:Program} {w:World} {A:Around} (t:Bool) (hh:A.handled = none) (I ax:Addr) (hne:ax≠I) (items:Array Value):Walks prog w A I [I,ax] [I] items.size (fun i v=>items[i]? = some v) (fun i h=>SubI t h I ax i∧SubS t h ax items):=by
 cases t
 ·exact Walks.list hh I ax hne items
 ·exact Walks.tuple hh I ax hne items
section
variable {prog:Program} {w:World} {A:Around} {E:Value→Shared→Prop} {s:Shared}
theorem vx {t:Bool} {l:Addr} {items:Array Value} {Q:Value→Shared→Prop} (hl:SubS t s.heap l items)
  (h:∀ s2:Shared,s2 = { s with heap:=s.heap.push (itO t l) }→(SubI t s2.heap s.heap.objs.size l 0∧SubS t s2.heap l items)→(∀ b∈[s.heap.objs.size,l],b < s2.heap.objs.size)→l≠s.heap.objs.size→Q (.ref s.heap.objs.size) s2):wpAny (model prog w) A (pyIter (.ref l)) Q E s:=by
 have hlt:l < s.heap.objs.size:=by
  cases t
  ·obtain ⟨_,e,_⟩:=(show s.heap.IsList l items from hl); exact Heap.lt_size e
  ·obtain ⟨_,e,_⟩:=(show s.heap.IsTuple l items from hl); exact Heap.lt_size e
 refine cq hl (h _ rfl ⟨?_,hl.keep fun o e=>Heap.get?_push_of_some _ e⟩ (fun b hb=>?_) (Nat.ne_of_lt hlt))
 ·cases t
  ·exact ⟨_,Heap.get?_push_size _ rfl,rfl,rfl⟩
  ·exact ⟨_,Heap.get?_push_size _ rfl,rfl,rfl⟩
 ·show b < (s.heap.push _).objs.size
  rw [Heap.size_push]
  simp only [List.not_mem_nil,or_false,List.mem_cons] at hb
  rcases hb with rfl | rfl
  ·exact Nat.lt_succ_self _
  ·exact Nat.lt_succ_of_lt hlt
theorem vt {t:Bool} {l:Addr} {h':Heap} (hk:∀ b o,b∉[s.heap.objs.size]→(s.heap.push (itO t l)).get? b = some o→h'.get? b = some o):∀ b o,s.heap.get? b = some o→h'.get? b = some o:=fun b o e =>
 hk b o (fun hm=>absurd (Heap.lt_size e) (by rw [List.mem_singleton.mp hm]; exact Nat.lt_irrefl _)) (Heap.get?_push_of_some _ e)
theorem qI {items:Array Value} {ns:List Int} (hi:IntsAre items.toList ns):∀ (i:Nat) (v:Value),items[i]? = some v→∃ t,v = .int (ns.getD i 0) t:=fun i v e=>hi.int_at i v (by simpa using e)
end
section
variable {X:Cx}
def rMax (K:PySem.W.Frag):List V→Hp→VK→Prop:=fun xs H Q=>∃ t l ns,xs = [.ref l]∧SqB t K H l (ns.map V.int)∧ns≠[]∧∀ x,x∈ns→(∀ y∈ns,y≤x)→Q (.int x) H
theorem vZ {ns:List Int} {b:Nat} (hb:b≤ns.length - 1) (hne:ns≠[]):ns.getD b 0∈ns:=by
 have hl:b < ns.length:=by
  have:ns.length≠0:=fun z=>hne (List.eq_nil_of_length_eq_zero z)
  omega
 rw [bF (List.getElem?_eq_getElem hl)]
 exact List.getElem_mem hl
theorem lc (hc:X.calm = true):b9 X (.builtin "max") (rMax X.K):=by
 rintro pins s σ H xs us Q I rv ⟨t,l,ns,ex,hq,hne,q⟩
 subst ex
 obtain ⟨u,rfl,ru⟩:=rv.one
 cases ru
 obtain ⟨its,rvv,pl,_⟩:=I.sqb hq
 have hi:IntsAre its.toArray.toList ns:=jC rvv
 have hl:its.length = ns.length:=by have:=rvv.length; rw [List.length_map] at this; omega
 refine call_max_walk (vx pl fun s2 e st hfp hlI=>?_)
 subst e
 refine ⟨s.heap.objs.size,[s.heap.objs.size,l],[s.heap.objs.size],its.toArray.size,fun i v=>its.toArray[i]? = some v,fun i h=>SubI t h s.heap.objs.size l i∧SubS t h l its.toArray,_,rfl,tj (A:=X.A.in1) t (I.ok.hd hc) _ l hlI its.toArray,st,hfp,?_,CmpOf.ints_gt (fun i=>ns.getD i 0) (qI hi),fun v h' tk hP hk=>?_⟩
 ·have:ns.length≠0:=fun z=>hne (List.eq_nil_of_length_eq_zero z)
  rw [List.size_toArray]; omega
 ·obtain ⟨tt,rfl⟩:=qI hi _ v hP
  rw [List.size_toArray,hl] at *
  obtain ⟨b1,b2⟩:=PySem.argBest_gt (fun i=>ns.getD i 0) (ns.length - 1)
  refine ⟨.int _,H,I.kept (t':=tk) (vt hk),⟨_,rfl⟩,q _ (vZ b1 hne) fun y hy=>?_⟩
  obtain ⟨j,hj,rfl⟩:=List.mem_iff_getElem.mp hy
  have:=b2 j (by omega)
  rwa [bF (List.getElem?_eq_getElem hj)] at this
end
section
variable {prog:Program} {w:World} {A:Around} {E:Value→Shared→Prop} {s:Shared}
structure o4 (t:Bool) (e it l:Addr) (k:Nat) (h:Heap):Prop where
 e:∃ old,IsEnum h e it (k:Int) old
 s:SubI t h it l k
theorem u0 {t:Bool} {e it l:Addr} {i:Nat} {items:Array Value} {x:Value} {Q:Option Value→Shared→Prop} (Z:o4 t e it l i s.heap) (hl:SubS t s.heap l items) (hx:items[i]? = some x) (hne:e≠it)
  (hQ:∀ h',IsEnumOut h' e it ((i:Int) + 1) x s.heap.objs.size→SubI t h' it l (i + 1)→IsPair h' s.heap.objs.size (.int i s.toks) x→h'.objs.size = s.heap.objs.size + 1 →
   (∀ b o,b∉[e,it]→s.heap.get? b = some o→h'.get? b = some o)→Q (some (.ref s.heap.objs.size)) { s with heap:=h',toks:=s.toks + 1 }):wpAny (model prog w) A (pyNext (.ref e)) Q E s:=by
 obtain ⟨⟨old,he⟩,hit⟩:=Z
 have hT:s.TypeIs (.ref e) "enumerate" := (⟨_,he,rfl⟩)
 unfold pyNext
 refine wpAny_bind (wpAny_attempt (wpAny_callSpecial?_slot (name:=Str.ofString "__next__") hT F.slot_enumerate_next (wpAny_call_entry F.slot_enumerate_next hT F.entry_enumerate_next ?_ (F.args_enumerate_next_1 _))))
 rcases s with ⟨hp,g,d,tk,os⟩
 refine wpAny_bind (m:=field (.ref e) 2) (wpAny_field he rfl (x:=.ref it) rfl (wpAny_bind (ic hit hl hx fun g1 n1 s1=>?_)))
 replace s1:Heap.SameBut it hp g1:=s1
 have e1:IsEnum g1 e it i old:=(s1.2 e hne).trans he
 show wpAny _ _ (field (.ref e) 3 >>= _) _ _ ⟨g1,g,d,tk,os⟩
 refine wpAny_bind (wpAny_field e1 rfl (x:=rawInt i) rfl ?_)
 show wpAny _ _ (field (.ref e) 4 >>= _) _ _ ⟨g1,g,d,tk,os⟩
 refine wpAny_bind (wpAny_field e1 rfl (x:=.none) rfl ?_)
 refine wpAny_bind (m:=mkInt i) (wpAny_mkInt ?_)
 show wpAny _ _ (setField (.ref e) 3 (rawInt ((i:Int) + 1)) >>= _) _ _ ⟨g1,g,d,tk + 1,os⟩
 refine wpAny_bind (wpAny_setField_rec e1 (by simp) fun g2 e2 s2=>?_)
 replace s2:Heap.SameBut e g1 g2:=s2
 replace e2:IsEnum g2 e it ((i:Int) + 1) old:=e2
 show wpAny _ _ (setField (.ref e) 4 .none >>= _) _ _ ⟨g2,g,d,tk + 1,os⟩
 refine wpAny_bind (wpAny_setField_rec e2 (by simp) fun g3 e3 s3=>?_)
 replace s3:Heap.SameBut e g2 g3:=s3
 replace e3:IsEnum g3 e it ((i:Int) + 1) old:=e3
 refine wpAny_bind (m:=newTuple [.int i tk,x]) (wpAny_newTuple ?_)
 have e4:IsEnum (g3.push { cls:=.type "tuple",data:=.seq #[.int i tk,x] }) e it ((i:Int) + 1) old:=Heap.get?_push_of_some _ e3
 have hsz:g3.objs.size = hp.objs.size:=by rw [s3.1,s2.1,s1.1]
 have young:e < hp.objs.size:=Heap.lt_size he
 have t4:(g3.push { cls:=.type "tuple",data:=.seq #[.int i tk,x] }).get? hp.objs.size = some { cls:=.type "tuple",data:=.seq #[.int i tk,x] }:=by rw [←hsz]; exact Heap.get?_push_size _ rfl
 have z4:(g3.push { cls:=.type "tuple",data:=.seq #[.int i tk,x] }).objs.size = hp.objs.size + 1:=by rw [Heap.size_push,hsz]
 have k4:∀ b o,b∉[e,it]→hp.get? b = some o→(g3.push { cls:=.type "tuple",data:=.seq #[.int i tk,x] }).get? b = some o:=fun b o hb q=>by
  simp only [List.mem_cons,List.not_mem_nil,not_or,or_false] at hb
  exact Heap.get?_push_of_some _ (s3.extBut b o hb.1 (s2.extBut b o hb.1 (s1.extBut b o hb.2 q)))
 have n4:SubI t (g3.push { cls:=.type "tuple",data:=.seq #[.int i tk,x] }) it l (i + 1):=((n1.ext s2.extBut (Ne.symm hne)).ext s3.extBut (Ne.symm hne)).keep fun o q=>Heap.get?_push_of_some _ q
 generalize g3.push { cls:=.type "tuple",data:=.seq #[.int i tk,x] } = g4 at e4 t4 z4 k4 n4
 show wpAny _ _ (Builtin.SmallTypes.ownedTupleIsFree (.ref e) >>= _) _ _ ⟨g4,g,d,tk + 1,os⟩
 rw [hsz]
 refine wpAny_bind (m:=Builtin.SmallTypes.ownedTupleIsFree (.ref e)) (wpAny_bind (m:=field (.ref e) 0) (wpAny_field e4 rfl (x:=.none) rfl (wpAny_pure ?_)))
 simp only [if_true]
 refine wpAny_bind (wpAny_rule (wpAny_bind (wpAny_field e4 rfl (x:=old) rfl (wpAny_bind (wpAny_setField_rec e4 (by simp) fun g5 e5 s5=>?_)))))
 replace s5:Heap.SameBut e g4 g5:=s5
 replace e5:IsEnum g5 e it ((i:Int) + 1) x:=e5
 show wpAny _ _ (Builtin.SmallTypes.ownedTupleHandOut (.ref e) (.ref hp.objs.size) >>= _) _ _ ⟨g5,g,d,tk + 1,os⟩
 refine wpAny_bind (m:=Builtin.SmallTypes.ownedTupleHandOut (.ref e) (.ref hp.objs.size)) ?_
 refine wpAny_bind (m:=setField (.ref e) 0 _) (wpAny_setField_rec e5 (by simp) fun g6 e6 s6=>?_)
 replace s6:Heap.SameBut e g5 g6:=s6
 replace e6:IsEnumOut g6 e it ((i:Int) + 1) x hp.objs.size:=e6
 refine wpAny_setField_rec e6 (by simp) fun g7 e7 s7=>?_
 replace s7:Heap.SameBut e g6 g7:=s7
 replace e7:IsEnumOut g7 e it ((i:Int) + 1) x hp.objs.size:=e7
 have up:∀ b o,b≠e→g4.get? b = some o→g7.get? b = some o:=fun b o n q=>s7.extBut b o n (s6.extBut b o n (s5.extBut b o n q))
 refine wpAny_bind (wpAny_letGo (wpAny_pure ⟨_,rfl,wpAny_pure (hQ g7 e7 (n4.keep fun o q=>up _ o (Ne.symm hne) q) (up _ _ (Nat.ne_of_gt young) t4) (by rw [s7.1,s6.1,s5.1,z4]) fun b o hb q=>up b o (fun z=>hb (by simp [z])) (k4 b o hb q))⟩))
theorem wR {t:Bool} {e it l:Addr} {i:Nat} {items:Array Value} {Q:Option Value→Shared→Prop} (hh:A.handled = none) (Z:o4 t e it l i s.heap) (hl:SubS t s.heap l items) (hx:items[i]? = none)
  (hQ:∀ hz,Heap.ExtBut it s.heap hz→Q none { s with heap:=hz }):wpAny (model prog w) A (pyNext (.ref e)) Q E s:=by
 obtain ⟨⟨old,he⟩,hit⟩:=Z
 have hT:s.TypeIs (.ref e) "enumerate" := (⟨_,he,rfl⟩)
 unfold pyNext
 refine wpAny_bind (wpAny_attempt (wpAny_callSpecial?_slot (name:=Str.ofString "__next__") hT F.slot_enumerate_next (wpAny_call_entry F.slot_enumerate_next hT F.entry_enumerate_next ?_ (F.args_enumerate_next_1 _))))
 refine wpAny_bind (m:=field (.ref e) 2) (wpAny_field he rfl (x:=.ref it) rfl (wpAny_bind (mo hh hit hl hx fun h' x he' hx'=>?_)))
 obtain ⟨o,ho,hc⟩:=hx'
 exact wpAny_bind (wpAny_isInstance (T := "StopIteration") (b:=true) ⟨o,ho,hc⟩ isSubtype_stop (wpAny_pure (hQ _ he')))
end
open AutoSeq1 (wpAny_loadPart') in
set_option maxHeartbeats 1100000 in
theorem xH (t:Bool) (l:Addr) (items:Array Value) :
  Meets (Builtin.«enumerate.__new__» ⟨[.type "enumerate",.ref l],[]⟩) (fun _ R s=>SubS t s.heap l items ∧
   R (.ok (.ret (.ref (s.heap.push (itO t l)).objs.size))) { s with heap:=(s.heap.push (itO t l)).push { cls:=.type "enumerate",data:=.fields #[.none,.bool false,.ref s.heap.objs.size,rawInt 0,.none,.none] } }) :=
 .of_wp fun prog w A R s h=>by
  rcases s with ⟨hp,g,d,tk,os⟩
  rcases h with ⟨hl,h⟩
  have hsub:=sub_enumerate
  have hL:SubS t (Shared.heap ⟨hp,g,d,tk,os⟩) l items:=hl
  wp_walk
  refine wpAny_stack_any fun st=>?_
  refine wpAny_pure ?_
  split
  ·rename_i c _ _ _ _ _
   cases c == Value.type "enumerate"
   ·wp_walk using cq hL
    exact ⟨_,rfl,h⟩
   ·wp_walk using cq hL
    exact ⟨_,rfl,h⟩
  ·wp_walk using cq hL
   exact ⟨_,rfl,h⟩
section
variable {prog:Program} {w:World} {A:Around} {E:Value→Shared→Prop} {s:Shared}
theorem rh {t:Bool} {l:Addr} {items:Array Value} {Q:Value→Shared→Prop} (hL:SubS t s.heap l items)
  (h:∀ h',o4 t (s.heap.objs.size + 1) s.heap.objs.size l 0 h'→(∀ b o,s.heap.get? b = some o→h'.get? b = some o)→Q (.ref (s.heap.objs.size + 1)) { s with heap:=h' }):wpAny (model prog w) A (call (.type "enumerate") [.ref l]) Q E s:=by
 refine callType_new F.called_enumerate (by decide) (F.typeCall_enumerate_1 _) (F.newCall_enumerate_1 _) (fun obj=>F.args_object_init_2 obj _) F.entry_enumerate_new (xH t l items) ⟨hL,?_⟩
 have hz:(s.heap.push (itO t l)).objs.size = s.heap.objs.size + 1:=Heap.size_push ..
 show _∧_
 rw [hz]
 have he:((s.heap.push (itO t l)).push { cls:=.type "enumerate",data:=.fields #[.none,.bool false,.ref s.heap.objs.size,rawInt 0,.none,.none] }).get? (s.heap.objs.size + 1) = some { cls:=.type "enumerate",data:=.fields #[.none,.bool false,.ref s.heap.objs.size,rawInt 0,.none,.none] }:=by
  rw [←hz]; exact Heap.get?_push_size _ rfl
 have hi:((s.heap.push (itO t l)).push { cls:=.type "enumerate",data:=.fields #[.none,.bool false,.ref s.heap.objs.size,rawInt 0,.none,.none] }).get? s.heap.objs.size = some (itO t l):=Heap.get?_push_of_some _ (Heap.get?_push_size _ rfl)
 refine ⟨⟨_,he,rfl⟩,h _ ⟨⟨.none,he⟩,?_⟩ fun b o x=>Heap.get?_push_of_some _ (Heap.get?_push_of_some _ x)⟩
 cases t
 ·exact ⟨_,hi,rfl,rfl⟩
 ·exact ⟨_,hi,rfl,rfl⟩
end
def Ite (t:Bool) (K:PySem.W.Frag) (a:Addr):It where
 go:=fun i H=>∃ xs x,SqB t K H a xs∧xs[i]? = some x
 yld:=fun i H v H'=>∃ T x,v = .ref T∧H T = none∧H' = upd H T (.tup [.int (i:Int),x])∧∀ xs,SqB t K H a xs→xs[i]? = some x
 stop:=fun i H=>∃ xs,SqB t K H a xs∧xs.length≤i
theorem sI {P:Program} {w:World} {K:PySem.W.Frag} {elts:List Expr} {x1:Nat} {pos:Pos} {t:Bool} {a e it:Addr} (hne:e≠it):Turn P w K (.Tuple elts x1 pos) (Ite t K a) [e,it] e (fun i h=>o4 t e it a i h) where
 mem:=by simp
 obj:=fun i h st c hc=>by
  obtain ⟨⟨old,he⟩,h1⟩:=st
  simp only [List.mem_cons,List.not_mem_nil,or_false] at hc
  rcases hc with rfl | rfl
  ·exact ⟨_,he,fun v q=>by cases q⟩
  ·obtain ⟨o,vs,e,d⟩:=h1.obj; exact ⟨o,e,fun v q=>by rw [d] at q; cases q⟩
 keep:=fun i h h' st k=>by
  obtain ⟨⟨old,he⟩,h1⟩:=st
  exact ⟨⟨old,k e (by simp) _ he⟩,h1.keep fun o q=>k it (by simp) o q⟩
 item:=by
  intro X hP hw hK hc i pins s σ H E I hf st hg
  subst hP hw hK
  obtain ⟨xs,x,hq,hx⟩:=hg
  obtain ⟨its,rv,p,_⟩:=I.sqb hq
  obtain ⟨u,eu,ru⟩:=rv.get hx
  refine u0 st p (x:=u) (by simpa using eu) hne fun h' a1 a2 a3 a4 a5=>⟨.ref s.heap.objs.size,rfl,?_⟩
  refine wpAny_letOwnedTupleGo_enum (s:={ s with heap:=h',toks:=s.toks + 1 }) a1 fun h2 b1 sb=>?_
  have hfT:H s.heap.objs.size = none:=I.hok.fresh (Nat.le_refl _)
  have sfp:∀ c∈[e,it],c < s.heap.objs.size:=fun c hc=>by
   obtain ⟨⟨old,he⟩,h1⟩:=st
   simp only [List.mem_cons,List.not_mem_nil,or_false] at hc
   rcases hc with rfl | rfl
   ·exact Heap.lt_size he
   ·obtain ⟨o,vs,e,d⟩:=h1.obj; exact Heap.lt_size e
  have nz:∀ c∈[e,it],c≠s.heap.objs.size:=fun c hc=>Nat.ne_of_lt (sfp c hc)
  have up:∀ c o,c≠e→h'.get? c = some o→h2.get? c = some o:=fun c o n q=>sb.extBut c o n q
  have T2:IsPair h2 s.heap.objs.size (.int i s.toks) u:=up _ _ (Ne.symm (nz e (by simp))) a3
  have I0:Inv X pins σ (upd H s.heap.objs.size (.tup [.int (i:Int),x])) { s with heap:=s.heap.push { cls:=.type "tuple",data:=.seq #[.int i s.toks,u] },toks:=s.toks + 1 } :=
   I.laid (o:=.tup [.int (i:Int),x]) (fun c o q=>Heap.get?_push_of_some _ q) (Nat.le_refl _) ⟨by show 2≤sizeLine; rw [sizeLine_eq]; decide,[.int i s.toks,u],.cons ⟨_,rfl⟩ (.cons ru .nil),PlainT.new _ _⟩
  have Il:Inv X pins σ (upd H s.heap.objs.size (.tup [.int (i:Int),x])) { s with heap:=h2,toks:=s.toks + 1 }:=by
   refine Inv.turneds (s:={ s with heap:=s.heap.push { cls:=.type "tuple",data:=.seq #[.int i s.toks,u] },toks:=s.toks + 1 }) (h':=h2) (t':=s.toks + 1) (ch:=[e,it]) I0 (fun c o hc q=>?_) fun c hc=>?_
   ·rcases Heap.get?_push_cases q with ⟨rfl,rfl⟩ | q
    ·exact T2
    ·exact up c o (fun z=>hc (by simp [z])) (a5 c o hc q)
   ·obtain ⟨f0,f1⟩:=hf c hc
    exact ⟨by rw [av (nz c hc)]; exact f0,f1⟩
  refine ⟨.ref s.heap.objs.size,upd H s.heap.objs.size (.tup [.int (i:Int),x]),Il,rfl,⟨_,x,rfl,hfT,rfl,fun zs hz=>by rw [I.sqb_inj hz hq]; exact hx⟩,⟨⟨u,?_⟩,a2.keep fun o q=>up _ o (Ne.symm hne) q⟩,fun c hc=>?_⟩
  ·have:((i + 1:Nat):Int) = (i:Int) + 1:=by omega
   rw [this]; exact b1
  ·rw [av (nz c hc)]
   exact (hf c hc).1
 done:=by
  intro X hP hw hK hc i pins s σ H E I hf st hg
  subst hP hw hK
  obtain ⟨xs,hq,he⟩:=hg
  obtain ⟨its,rv,p,_⟩:=I.sqb hq
  have l1:=rv.length
  exact wR (I.ok.hd hc) st p (by simp; omega) fun h' hk=>⟨rfl,I.turneds (t':=s.toks) (ch:=[e,it]) (fun c o hc q=>hk c o (fun z=>hc (by simp [z])) q) hf⟩
 self:=fun _ _ _ _ _ st h=>by obtain ⟨⟨old,he⟩,_⟩:=st; exact wpAny_pyIter_enum he h
section
variable {X:Cx} {elts:List Expr} {x1:Nat} {tpos:Pos} {a:Expr} {ws:WA} {p pos:Pos}
def J0 (K:PySem.W.Frag) (ta:TA):TI:=fun σ H Rq=>ta σ H fun vs H1=>∃ t l,vs = [.ref l]∧(∃ xs,SqB t K H1 l xs)∧Rq (Ite t K l) H1
theorem BG {ta:TA} (hg:Gl X "enumerate") (hm:X.mg "enumerate" = none) (ha:PA X [a] ta) (hs:starEach [a] X.env = [(false,eval a X.env)]:=by first | exact br rfl | rfl):PI X (.Tuple elts x1 tpos) (.Call (.Name "enumerate" p) [a] [] pos) (J0 X.K ta):=by
 intro pins s σ H Rq I h
 refine Call_ (gH I hg hm lZ (PyProof.Rows.callWith_type1 (thn (ha pos pins s σ H _ I h) fun us s1 ⟨vs,H1,I1,r1,q1⟩=>?_) hs rfl))
 obtain ⟨t,l,e,⟨xs,h1⟩,q⟩:=q1
 subst e
 cases r1 with
 | cons r rr =>
  cases rr
  cases r
  obtain ⟨its,rv,pp,_⟩:=I1.sqb h1
  refine rh pp fun h' Z hk=>?_
  obtain ⟨old,he⟩:=Z.e
  refine wpAny_pyIter_enum he ⟨s1.heap.objs.size + 1,_,_,_,H1,rfl,I1.kept (t':=s1.toks) hk,sI (Nat.succ_ne_self _),Z,fun c hc=>?_,q⟩
  have hle:s1.heap.objs.size≤c:=by
   have hc':c∈([s1.heap.objs.size + 1,s1.heap.objs.size]:List Nat):=hc
   simp only [List.mem_cons,List.not_mem_nil,or_false] at hc'
   rcases hc' with rfl | rfl <;> first | exact Nat.le_add_right _ _ | exact Nat.le_refl _
  exact I1.fpOk hle (I1.hok.fresh hle)
def qv (ds:List PyData):List PyData:=zipD (ci 0 ds.length) ds
def rJ (ws:WA):WI:=fun m K=>ws m fun rs m'=>on1 (fun r=>∃ t ds,imS r = some (t,ds)∧K ⟨qv ds,none⟩ m') rs
theorem b7 (ds:List PyData):(qv ds).length = ds.length:=by unfold qv; rw [dg,aH]; omega
theorem l9 {ds:List PyData} {i:Nat} {d:PyData} (h:ds[i]? = some d):(qv ds)[i]? = some (.tuple [.int (i:Int),d]):=by
 have hi:=(List.getElem?_eq_some_iff.mp h).1
 have:=oz (gu (lo:=0) hi) h
 rw [Int.zero_add] at this
 exact this
theorem wks_enum {K:Kd} {t:Bool} {l:Addr} {ds:List PyData}:Wks K (Ite t K l) (qv ds) fun H=>∃ xs,SqB t K H l xs∧DenAll K H ds xs where
 stop:=fun H ⟨xs,q,g⟩=>⟨xs,q,by rw [b7,g.length]; exact Nat.le_refl _⟩
 go:=fun i H hi ⟨xs,q,g⟩=>by
  rw [b7] at hi
  exact ⟨xs,xs[i]'(by rw [←g.length]; exact hi),q,List.getElem?_eq_getElem _⟩
 yld:=fun i H x H' hi ⟨xs,q,g⟩ y=>by
  obtain ⟨T,u,rfl,hT,rfl,e1⟩:=y
  obtain ⟨d,h1,k1⟩:=g.get2 (e1 xs q)
  have gr:∀ b o,H b = some o→upd H T (.tup [.int (i:Int),u]) b = some o:=fun b o q=>by rw [av (aU q hT)]; exact q
  have pe:Pers H (upd H T (.tup [.int (i:Int),u])):=⟨fun b xs q=>gr b _ q,fun b o u q=>gr b _ q⟩
  exact ⟨gr,_,l9 h1,cN (SqT.of aC) (DenAll.cons (mJ _) (DenAll.cons (k1.mono pe) DenAll.nil))⟩
theorem BM (hm:X.mg "enumerate" = none) (ha:MA X [a] ws) (hg:Gl X "enumerate" := by rfl) (hs:starEach [a] X.env = [(false,eval a X.env)]:=by first | exact br rfl | rfl):MI X (.Tuple elts x1 tpos) (.Call (.Name "enumerate" p) [a] [] pos) (rJ ws):=(BG hg hm ha hs).wk fun σ H Rq ⟨α,m,Kc,Rl,hw,fin⟩=>by
 refine ⟨α,m,_,Rl,hw,fun rs m' vs H' k n Rl' rr F=>?_⟩
 obtain ⟨r,v,rfl,rfl,h1,t,ds,e1,k⟩:=bO rr k
 obtain ⟨l,xs,rfl,g1,q1,p1⟩:=qW h1 e1
 refine ⟨t,l,rfl,⟨xs,q1⟩,fin _ m' _ H' k n Rl' F ⟨fun H=>∃ xs,SqB t X.kx H l xs∧DenAll X.kx H ds xs∧∀ H1,Pers H H1→SqB t X.kx H1 l xs,wks_enum.imp fun H ⟨xs,a,c,_⟩=>⟨xs,a,c⟩,⟨xs,q1,g1,p1⟩,fun Ha Hb ⟨xs,a,c,pa⟩ pe=>⟨xs,pa Hb pe,c.mono pe,fun H1 p=>pa H1 (pe.trans p)⟩⟩⟩
theorem vP (hm:X.mg "enumerate" = none) (ha:EA X [a] ws) (hg:Gl X "enumerate" := by rfl) (hs:starEach [a] X.env = [(false,eval a X.env)]:=by first | exact br rfl | rfl):EI X (.Tuple elts x1 tpos) (.Call (.Name "enumerate" p) [a] [] pos) (rJ ws):=⟨BM hm ha.h hg hs⟩
theorem Ic {m:MSt} {Ks:Src→MSt→Prop} (h:ws m fun rs m'=>on1 (fun r=>∃ t ds,imS r = some (t,ds)∧Ks ⟨qv ds,none⟩ m') rs):rJ ws m Ks:=h
end
section
variable {X:Cx}
def FI:WC:=fun rs m K=>on1 (fun r=>∃ ds ns,sqOf m r = some ds∧dk ds = some ns∧ns≠[]∧∀ x,x∈ns→(∀ y∈ns,y≤x)→K (.imm (.int x))) rs
theorem cX (hc:X.calm = true):b9 X (.builtin "max") (cM X.kx FI):=by
 rintro pins s σ' H xs us Q I rv ⟨α,m,σ,H0,rs,Kc,Rl,h,ho,fin⟩
 obtain ⟨r,v,rfl,rfl,h1,ds,ns,e1,e2,hne,ho⟩:=bO h ho
 obtain ⟨a,ys,rfl,f,g⟩:=h1.seq Rl e1
 rw [jt e2] at g
 have ey:=e9 g
 subst ey
 have go:∀ x,x∈ns→(∀ y∈ns,y≤x)→Q (.int x) H:=fun x h1 h2=>fin _ _ H (ho x h1 h2) Rl (cA _) (Frm.refl _ _)
 rcases f with f | f
 ·exact lc hc pins s σ' H _ us Q I rv ⟨false,a,ns,rfl,f,hne,go⟩
 ·exact lc hc pins s σ' H _ us Q I rv ⟨true,a,ns,rfl,f,hne,go⟩
theorem lA {m:MSt} {r:R} {Kr:R→Prop} {ds:List PyData} {ns:List Int} (e1:sqOf m r = some ds) (e2:dk ds = some ns) (hne:ns≠[]) (h:∀ x,x∈ns→(∀ y∈ns,y≤x)→Kr (.imm (.int x))):FI [r] m Kr:=⟨ds,ns,e1,e2,hne,h⟩
end
open SeqAt in
open AutoSeq1 (wpAny_loadPart') in
theorem nR (l:Addr) (items:Array Value) (n:Nat) (dd:Option Addr) (sl:Array (Option Value)) (x:Value) (e:Value→Bool) (j:Nat) (hj:j < items.size) (hit:e items[j] = true) (hno:∀ m (hm:m < items.size),m < j→e items[m] = false) :
  Meets (Builtin.«tuple.index» ⟨[.ref l,x],[]⟩)
   (fun A R s=>s.heap.get? l = some { cls:=.type "tuple",dict:=dd,data:=.seq items n,slots:=sl }∧(∀ y,y∈items→EqAt A.in1 s y x (e y))∧R (.ok (.ret (.int j s.toks))) { s with toks:=s.toks + 1 }) :=
 .of_wp fun prog w A R s h=>by
  rcases s with ⟨hp,g,d,tk,os⟩
  rcases h with ⟨hl,he,h⟩
  (wp_walk using wpAny_loadPart' hl)
  refine (show wpAny (model prog w) A.in1 (forIn ([:min items.size items.size]:Std.Legacy.Range) _ _) _ _ _ from ?_)
  simp only [Std.Legacy.Range.forIn_eq_forIn_range']
  have e1:List.range' (0:Nat) (min items.size items.size) 1 = List.range' 0 items.size 1:=by rw [Nat.min_self]
  refine wpAny_forIn_list _ (fun rest (b:Option _×Unit) s'=>b.1 = none∧s' = ⟨hp,g,d,tk,os⟩∧∃ i,i≤j∧rest = List.range' i (items.size - i) 1) _ ?turn ?fin _ _ ?start
  case turn =>
   rintro i rest b s' ⟨hb,rfl,i0,hi0,hr⟩
   have hlt:i0 < items.size:=by omega
   have hs:items.size - i0 = (items.size - (i0 + 1)) + 1:=by omega
   rw [hs,List.range'_succ] at hr
   cases hr
   rw [show items[i]? = some items[i] from Array.getElem?_eq_getElem hlt]
   refine wpAny_bind (he items[i] (Array.getElem_mem hlt) prog w _ _ ?_)
   by_cases hij:i = j
   ·subst hij
    rw [hit]
    wp_walk
    exact ⟨_,rfl,h⟩
   ·rw [hno i hlt (by omega)]
    wp_walk
    exact ⟨rfl,rfl,i + 1,by omega,rfl⟩
  case fin =>
   rintro ⟨b1,b2⟩ s' ⟨hb,rfl,i0,hi0,hr⟩
   have:=congrArg List.length hr
   simp at this
   omega
  case start =>
   refine ⟨rfl,rfl,0,Nat.zero_le _,?_⟩
   simp [Std.Legacy.Range.size]
section
variable {X:Cx} {o e:Expr} {es:List Expr} {wo:WE} {ws:WA} {apos cpos:Pos}
def wMT (ob:WM) (wo:WE) (ws:WA):WE:=fun m K=>wo m fun r m1=>(∃ ds,r = .imm (.tuple ds))∧ws m1 fun rs m2=>ob r rs m2 K
theorem KA {name:Str} {id:String} {ob:WM} (slot:Slot "tuple" name id) (hty:typeOf (.builtin id) = pure (.type "method_descriptor")) (hm:MtM X id (mM X.kx ob)) (ho:ME X o wo) (ha:MA X (e :: es) ws)
  (hbase:attributeBase o name X.env (eval o X.env) = eval o X.env:=by rfl)
  (hfew:((backTo cpos (starEach (e :: es) X.env)).all (fun x=>!x.1) && (backToKw cpos (keywordEach [] X.env)).all (fun x=>x.1.isSome)
   && decide ((e :: es).length + ([]:List Keyword).length + (if ([]:List Keyword).isEmpty then 0 else 1) < 30)) = true:=by rfl)
  (hline:(apos.endLine == cpos.line) = true:=by rfl) (hs:starEach (e :: es) X.env = (false,eval e X.env) :: starEach es X.env:=by first | exact aD rfl | rfl) (hplain:(backTo cpos (starEach es X.env)).any (·.1) = false:=by rfl) :
  ME X (.Call (.Attribute o name apos) (e :: es) [] cpos) (wMT ob wo ws):=(AQ PySem.F.plainAttrs_tuple slot hty hm ho ha hbase hfew hline hs hplain).wk fun σ H Q ⟨α,m,Kc,Rl,hw,fin⟩=>by
 refine ⟨α,m,_,Rl,hw,fun r m1 v H1 k n1 Rl1 rr F1=>?_⟩
 obtain ⟨⟨ds,rfl⟩,k⟩:=k
 obtain ⟨a,xs,rfl,f,g⟩:=aY (show Den X.kx H1 (.tuple ds) v from rr)
 refine ⟨.inr (.inl ⟨rfl,xs,f⟩),α,m1,_,Rl1,k,fun rs m2 vs H2 k2 n2 Rl2 rr2 F2=>?_⟩
 exact ⟨α,m2,σ,H,H1,.imm (.tuple ds),rs,Kc,Rl2,rr.keep Rl Rl1 F2,rr2,k2,fun r m' v H' k n Rl' rr' F=>fin r m' v H' k (n.trans (n2.trans n1)) Rl' (rr'.base Rl2 (F1.trans F2)) ((F1.trans F2).trans F)⟩
theorem sY {name:Str} {id:String} {ob:WM} (slot:Slot "tuple" name id) (hty:typeOf (.builtin id) = pure (.type "method_descriptor")) (hm:MtM X id (mM X.kx ob)) (ho:EE X o wo) (ha:EA X (e :: es) ws)
  (hbase:attributeBase o name X.env (eval o X.env) = eval o X.env:=by rfl)
  (hfew:((backTo cpos (starEach (e :: es) X.env)).all (fun x=>!x.1) && (backToKw cpos (keywordEach [] X.env)).all (fun x=>x.1.isSome)
   && decide ((e :: es).length + ([]:List Keyword).length + (if ([]:List Keyword).isEmpty then 0 else 1) < 30)) = true:=by rfl)
  (hline:(apos.endLine == cpos.line) = true:=by rfl) (hs:starEach (e :: es) X.env = (false,eval e X.env) :: starEach es X.env:=by first | exact aD rfl | rfl) (hplain:(backTo cpos (starEach es X.env)).any (·.1) = false:=by rfl) :
  EE X (.Call (.Attribute o name apos) (e :: es) [] cpos) (wMT ob wo ws):=⟨KA slot hty hm ho.h ha.h hbase hfew hline hs hplain⟩
theorem x_mt {m:MSt} {K:R→MSt→Prop} {ob:WM} (h:wo m fun r m1=>(∃ ds,r = .imm (.tuple ds))∧ws m1 fun rs m2=>ob r rs m2 K):wMT ob wo ws m K:=h
theorem x_ts {ds:List PyData} {P:Prop} (h:P):(∃ es,R.imm (.tuple ds) = .imm (.tuple es))∧P:=⟨⟨ds,rfl⟩,h⟩
def uO:WM:=fun r rs m K=>on1 (cf fun d=>∃ ds j,r = .imm (.tuple ds)∧d.canLay0 = true∧PyData.canLayAll0 ds = true∧d.depth≤60∧(∃ y,ds[j]? = some y∧PyData.eqv y d = true)∧(∀ (i:Nat) y,i < j→ds[i]? = some y→PyData.eqv y d = false)∧K (.imm (.int (j:Nat))) m) rs
theorem jA (hu:X.A.units + 64 < cLine):MtM X "tuple.index" (mM X.kx uO):=by
 rintro pins s σ' H x xs v us Q I rx rv ⟨α,m,σ,H0,H1,r,rs,Kc,Rl,h1,h2,ho,fin⟩
 obtain ⟨r2,v2,rfl,rfl,h2,ho⟩:=bO h2 ho
 obtain ⟨d,rfl,hd,ds,j,rfl,c1,c2,dp,⟨y,ey,eq⟩,hno,ho⟩:=cG h2 ho
 obtain ⟨a,zs,rfl,f,g⟩:=aY (show Den X.kx H (.tuple ds) x from h1)
 cases rx
 obtain ⟨u,rfl,ru⟩:=rv.one
 obtain ⟨bs,qd⟩:=Den.reads I (PyData.hasDict_of_canLay _ c1) hd ru
 obtain ⟨its,rvv,⟨o,ho1,hc,hdict,n,hdata⟩,hz⟩:=I.tupleP f
 obtain ⟨as,rds⟩:=DenAll.reads I (PyData.hasDictAll_of_canLayAll _ c2) g rvv
 have hm:X.A.units + 1 + min (PyData.depthAll ds) d.depth < cLine:=by have:=Nat.min_le_right (PyData.depthAll ds) d.depth; omega
 have hmap:=SeqAt.readsAll_map ds _ _ c2 rds
 have hl:its.length = ds.length:=by rw [←hmap,List.length_map]
 have hj:j < its.length:=by rw [hl]; exact (List.getElem?_eq_some_iff.mp ey).1
 have ro:∀ (i:Nat) (hi:i < its.length) y,ds[i]? = some y→SeqAt.readOf s.heap its[i] = y:=fun i hi y e=>by
  rw [←hmap,List.getElem?_map,List.getElem?_eq_getElem hi] at e
  exact Option.some.inj e
 obtain ⟨cls,dd,data,sl⟩:=o
 dsimp only at hc hdata
 subst hc
 subst hdata
 refine call_meets PySem.F.slot_tuple_index ⟨_,ho1,rfl⟩ PySem.F.entry_tuple_index (PySem.F.args_tuple_index_2 _ _)
  (nR a its.toArray _ dd sl u (fun y=>PyData.eqv (SeqAt.readOf s.heap y) d) j (by simpa using hj) ?_ ?_) ⟨ho1,SeqAt.items_eqAt (by simpa using rds) qd c2 c1 hm,?_⟩
 ·show PyData.eqv (SeqAt.readOf s.heap its[j]) d = true
  rw [ro j hj y ey]; exact eq
 ·intro i hi hlt
  have hi':i < its.length:=by simpa using hi
  show PyData.eqv (SeqAt.readOf s.heap its[i]) d = false
  have hi2:i < ds.length:=by rw [←hl]; exact hi'
  rw [ro i hi' _ (List.getElem?_eq_getElem hi2)]
  exact hno i _ hlt (List.getElem?_eq_getElem hi2)
 ·exact ⟨.int (j:Nat),H,I.tok _,⟨_,rfl⟩,fin _ _ _ H ho rfl Rl (cA _) (Frm.refl _ _)⟩
theorem oq {m:MSt} {d y:PyData} {ds:List PyData} {j k k':Nat} {K:R→MSt→Prop} (s1:Shp k d) (s2:∀ y∈ds,Shp k' y) (hk:k≤60) (ey:ds[j]? = some y) (eq:PyData.eqv y d = true) (hno:∀ (i:Nat) y,i < j→ds[i]? = some y→PyData.eqv y d = false) (h:K (.imm (.int (j:Nat))) m):uO (.imm (.tuple ds)) [.imm d] m K :=
 ⟨ds,j,rfl,s1.cl,(gw s2).1,Nat.le_trans s1.dp hk,⟨y,ey,eq⟩,hno,h⟩
end
theorem qg:fillsNumberSlot (.type "tuple") "mul" = pure false :=
 PySem.fillsNumberSlot_seq (id := "tuple.__mul__") (r:=some (.builtin "tuple.__rmul__")) PySem.F.slot_tuple_mul.lookup (by decide +kernel) PySem.F.slot_tuple_rmul.lookup (by decide +kernel)
theorem BR:seqRepeat? (.type "tuple") = pure (some (.builtin "tuple.__mul__")):=by
 unfold seqRepeat?
 rw [PySem.seqSlot_of (T := "tuple") (name := "__mul__") (id := "tuple.__mul__") PySem.F.slot_tuple_mul.lookup (by decide +kernel),PySem.seqSlot_of (T := "tuple") (name := "__rmul__") (id := "tuple.__rmul__") PySem.F.slot_tuple_rmul.lookup (by decide +kernel)]
 rfl
theorem vg (a:Int) (t:Tok) (l:Addr) (items:Array Value) (n:Nat) (dd:Option Addr) (sl:Array (Option Value)) :
  Meets (Builtin.«int.__rmul__» ⟨[.int a t,.ref l],[]⟩) (fun _ R s=>s.heap.get? l = some { cls:=.type "tuple",dict:=dd,data:=.seq items n,slots:=sl }∧R (.ok (.ret Value.notImplemented)) s) :=
 .of_wp fun prog w A R s h=>by
  rcases s with ⟨hp,g,d,tk,os⟩
  rcases h with ⟨hl,h⟩
  wp_walk
  exact ⟨_,rfl,h⟩
open AutoSeq1 (wpAny_loadPart') in
theorem BA (l:Addr) (items:Array Value) (n:Nat) (dd:Option Addr) (sl:Array (Option Value)) (k:Int) (t:Tok) (h1 : 0≤k) (h2:k < 2 ^ 20) (hz:items.size * k.toNat≤1000000) :
  Meets (Builtin.«tuple.__mul__» ⟨[.ref l,.int k t],[]⟩) (fun _ R s=>s.heap.get? l = some { cls:=.type "tuple",dict:=dd,data:=.seq items n,slots:=sl } ∧
   if (items.isEmpty || k == 1) = true then R (.ok (.ret (.ref l))) s else R (.ok (.ret (.ref s.heap.objs.size))) { s with heap:=s.heap.push { cls:=.type "tuple",data:=.seq ((List.replicate k.toNat items).foldl (fun x1 x2=>x1++x2) #[]) } }) :=
 .of_wp fun prog w A R s h=>by
  rcases s with ⟨hp,g,d,tk,os⟩
  rcases h with ⟨hl,h⟩
  (wp_walk using wpAny_loadPart' hl)
  have hT:(⟨hp,g,d,tk,os⟩ : Shared).TypeIs (.ref l) "tuple" := (⟨_,hl,rfl⟩)
  have hIs:IsTup (⟨hp,g,d,tk,os⟩ : Shared).heap l items:=⟨_,hl,rfl,n,rfl⟩
  have hsz:((items.size:Nat):Int) * k≤1000000:=by
   have ek:k = ((k.toNat:Nat):Int):=by omega
   rw [ek,←Int.natCast_mul]; omega
  rw [if_neg (show ¬ _ by simp only [decide_eq_true_eq,Bool.or_eq_true]; omega)]
  refine wpAny_bind (tupleItemsOf_ hIs ?_)
  by_cases hc:(items.isEmpty || k == 1) = true
  ·rw [if_pos hc] at h ⊢
   refine wpAny_bind ?_
   unfold Builtin.Tuple.tupleIsExact
   refine wpAny_bind (wpAny_typeOf hT (wpAny_pure ?_))
   rw [if_pos (by rfl)]
   exact wpAny_bind (wpAny_rule (wpAny_pure ⟨_,rfl,h⟩))
  ·rw [if_neg hc] at h ⊢
   have he:items.isEmpty = false:=by
    cases q:items.isEmpty with
    | false=>rfl
    | true=>rw [q] at hc; exact (hc rfl).elim
   by_cases hk0:k = 0
   ·subst hk0
    show wpAny _ _ (if (decide ((0:Int)≤0) || items.isEmpty) = true then _ else _) _ _ _
    rw [if_pos (by rfl)]
    exact wpAny_bind (m:=Builtin.Tuple.tupleExact #[]) (wpAny_newObj_type (wpAny_pure ⟨_,rfl,h⟩) (by show (0:Nat)≤sizeLine; exact Nat.zero_le _))
   have e1:(decide (k≤0) || items.isEmpty) = false:=by rw [he,decide_eq_false (by omega)]; rfl
   have hlen:∀ (m:Nat) (acc:Array Value),(List.foldl (fun x1 x2=>x1++x2) acc (List.replicate m items)).size = acc.size + m * items.size:=by
    intro m
    induction m with
    | zero=>intro acc; simp
    | succ m ih=>intro acc; rw [List.replicate_succ,List.foldl_cons,ih,Array.size_append,Nat.succ_mul]; omega
   have hbig:((List.replicate k.toNat items).foldl (fun x1 x2=>x1++x2) #[]).size≤sizeLine:=by
    rw [hlen,sizeLine_eq,Nat.mul_comm]; simp; omega
   show wpAny _ _ (if (decide (k≤0) || items.isEmpty) = true then _ else _) _ _ _
   rw [if_neg (by rw [e1]; exact Bool.false_ne_true)]
   show wpAny _ _ (if ((items.size:Nat):Int) * k > (2 ^ 63 - 1) / 8 then _ else _) _ _ _
   rw [if_neg (by omega)]
   show wpAny _ _ (if Builtin.Tuple.tupleTooMany (((items.size:Nat):Int) * k) = true then _ else _) _ _ _
   rw [if_neg (by unfold Builtin.Tuple.tupleTooMany; rw [decide_eq_true_eq,sizeLine_eq]; omega)]
   exact wpAny_bind (m:=Builtin.Tuple.tupleExact _) (wpAny_newObj_type (wpAny_pure ⟨_,rfl,h⟩) hbig)
section
variable {X:Cx}
def J8 (K:PySem.W.Frag):R2:=fun x y H Q=>∃ a xs k,x = .ref a∧y = .int k∧SqT K H a xs∧0≤k∧k < 2 ^ 20∧xs.length * k.toNat≤1000000 ∧
 if (xs.isEmpty || k == 1) = true then Q (.ref a) H else ∀ p,H p = none→Q (.ref p) (upd H p (.tup (List.replicate k.toNat xs).flatten))
theorem Bg:OpR X (binaryOp .Mult) (J8 X.K):=by
 intro pins s σ H x y v u Q I rx ry h
 obtain ⟨a,xs,k,rfl,rfl,hq,h1,h2,hz,q⟩:=h
 cases rx
 obtain ⟨t,rfl⟩:=ry
 obtain ⟨its,r,⟨o,ho,hc,hd,n,hdt⟩,hsz⟩:=I.tupleP hq
 obtain ⟨cls,dd,data,sl⟩:=o
 dsimp only at hc hdt
 subst hc hdt
 have hl:xs.length = its.length:=r.length
 have hem:its.toArray.isEmpty = xs.isEmpty:=by
  cases its with
  | nil=>have:xs = []:=List.eq_nil_of_length_eq_zero (by simpa using hl); subst this; rfl
  | cons _ _=>cases xs with
   | nil=>simp at hl
   | cons _ _=>rfl
 have hnew:List.foldl (fun x1 x2=>x1++x2) #[] (List.replicate k.toNat its.toArray) = (List.replicate k.toNat its).flatten.toArray:=by
  have:=ij its k.toNat []
  rw [List.nil_append] at this
  exact this
 refine wpAny_binaryOp_repeat_ref (T := "tuple") (U := "int") (by decide) ⟨_,ho,rfl⟩ (fun s'=>typeIs_int s' k t) qg PySem.F.fills_int_mul PySem.F.slot_int_rmul BR PySem.F.slot_int_index.lookup
  (call_meets PySem.F.slot_int_rmul (typeIs_int s k t) PySem.F.entry_int_rmul (PySem.F.args_int_rmul_2 _ _) (vg k t a its.toArray n dd sl)
   ⟨ho,rfl,⟨_,ho,rfl⟩,call_meets PySem.F.slot_tuple_mul ⟨_,ho,rfl⟩ PySem.F.entry_tuple_mul (PySem.F.args_tuple_mul_2 _ _) (BA a its.toArray n dd sl k t h1 h2 (by rw [List.size_toArray,←hl]; exact hz)) ⟨ho,?_⟩⟩)
 rw [hem,hnew]
 by_cases hc:(xs.isEmpty || k == 1) = true
 ·rw [if_pos hc] at q ⊢
  exact ⟨.ref a,H,I,rfl,q⟩
 ·rw [if_neg hc] at q ⊢
  have hp:H s.heap.objs.size = none:=I.hok.fresh (Nat.le_refl _)
  refine ⟨.ref s.heap.objs.size,_,I.laid (t':=s.toks) (o:=.tup (List.replicate k.toNat xs).flatten) (fun b ob e=>Heap.get?_push_of_some _ e) (Nat.le_refl _) ⟨?_,_,r.rep k.toNat,PlainT.new _ _⟩,rfl,q _ hp⟩
  rw [uQ,Nat.mul_comm,sizeLine_eq]; omega
def qK:WO
 | .imm (.int i),.imm (.int j),_,K=>IntMulOk i j∧K (.imm (.int (i * j)))
 | .imm (.tuple ds),.imm (.int k),_,K=>0≤k∧k < 2 ^ 20∧ds.length * k.toNat≤1000000∧K (.imm (.tuple (List.replicate k.toNat ds).flatten))
 | .new ds,.imm (.int k),_,K=>0≤k∧k < 2 ^ 20∧ds.length * k.toNat≤1000000∧K (.new (List.replicate k.toNat ds).flatten)
 | _,_,_,_=>False
theorem fU {K:Kd} {H:Hp} {ds:List PyData} {xs:List V} (g:DenAll K H ds xs):∀ k:Nat,DenAll K H (List.replicate k ds).flatten (List.replicate k xs).flatten
 | 0=>by simp only [List.replicate_zero,List.flatten_nil,DenAll]
 | k + 1=>by rw [List.replicate_succ,List.replicate_succ,List.flatten_cons,List.flatten_cons]; exact g.append (fU g k)
theorem bI:OpR X (binaryOp .Mult) (rM X.kx qK):=by
 rintro pins s σ' H x y v u Q I rx ry ⟨α,m,σ,H0,H1,r1,r2,Kc,Rl,h1,h2,ho,fin⟩
 unfold qK at ho
 split at ho
 ·rename_i i j
  exact zP pins s σ' H x y v u Q I rx ry ⟨α,m,σ,H0,H1,.imm (.int i),.imm (.int j),Kc,Rl,h1,h2,ho,fin⟩
 ·rename_i ds k
  obtain ⟨k1,k2,k3,ho⟩:=ho
  obtain ⟨a,xs,rfl,f,g⟩:=aY (show Den X.kx H (.tuple ds) x from h1)
  have e2:=au (show Den X.kx H (.int k) y from h2)
  subst e2
  refine Bg pins s σ' H _ _ v u Q I rx ry ⟨a,xs,k,rfl,rfl,f,k1,k2,by rw [←g.length]; exact k3,?_⟩
  by_cases hc:(xs.isEmpty || k == 1) = true
  ·rw [if_pos hc]
   refine fin _ _ H ho Rl (dj (cN f ?_)) (Frm.refl _ _)
   have e:(List.replicate k.toNat ds).flatten = ds:=by
    rw [Bool.or_eq_true] at hc
    rcases hc with hc | hc
    ·have hx:xs = []:=List.isEmpty_iff.mp hc
     have hd:ds = []:=List.eq_nil_of_length_eq_zero (by rw [g.length,hx]; rfl)
     subst hd; simp
    ·have:k = 1:=by simpa using hc
     subst this; simp
   rw [e]; exact g
  ·rw [if_neg hc]
   exact fun p hp=>fin _ _ _ ho (Rl.lay hp) (dj (cN (SqT.of aC) ((fU g k.toNat).mono (aZ (.inl hp))))) (bR hp)
 ·rename_i ds k
  obtain ⟨k1,k2,k3,ho⟩:=ho
  obtain ⟨a,xs,rfl,hb,hH,g⟩:=h1
  have e2:=au (show Den X.kx H (.int k) y from h2)
  subst e2
  refine DL pins s σ' H _ _ v u Q I rx ry ⟨a,k,xs,rfl,rfl,hH,by omega,by omega,by rw [←g.length,sizeLine_eq]; omega,fun p hp=>?_⟩
  exact fin _ _ _ ho (Rl.lay hp) ⟨p,_,rfl,hp,aC,(fU g k.toNat).mono (aZ (.inl hp))⟩ (bR hp)
 ·exact ho.elim
theorem y7 {m:MSt} {i j:Int} {Kr:R→Prop} (hc:IntMulOk i j) (h:Kr (.imm (.int (i * j)))):qK (.imm (.int i)) (.imm (.int j)) m Kr:=⟨hc,h⟩
theorem yl {m:MSt} {ds:List PyData} {k:Int} {Kr:R→Prop} (h1 : 0≤k) (h2:k < 2 ^ 20) (h3:ds.length * k.toNat≤1000000) (h:Kr (.imm (.tuple (List.replicate k.toNat ds).flatten))):qK (.imm (.tuple ds)) (.imm (.int k)) m Kr:=⟨h1,h2,h3,h⟩
theorem Fj {m:MSt} {ds:List PyData} {k:Int} {Kr:R→Prop} (h1 : 0≤k) (h2:k < 2 ^ 20) (h3:ds.length * k.toNat≤1000000) (h:Kr (.new (List.replicate k.toNat ds).flatten)):qK (.new ds) (.imm (.int k)) m Kr:=⟨h1,h2,h3,h⟩
end
end L2
namespace K
open PySem L2 M7
inductive Mv where
 | come (o:List Nat) | done (k:Nat) | still
def Mv.d:Mv→PyData
 | .come o=>.tuple [.str "come",lnD o]
 | .done k=>.tuple [.str "done",.int (k:Int)]
 | .still=>.tuple [.str "still"]
def Mv.Ok (h:Hall):Mv→Prop
 | .come o=>Ord h.ss.length o
 | .done k=>k < h.ss.length
 | .still=>True
inductive Wd where
 | taken | away | served | none
def Wd.s:Wd→Str
 | .taken => "taken" | .away => "away" | .served => "served" | .none => "none"
def Hall.rn (h:Hall) (k:Nat):Nat:=h.rs.getD k 0
def dn (h:Hall) (l:List Nat) (k:Nat):List Nat×Wd:=if l.getD k 0 = h.rn k then (l,.away) else (l.set k (l.getD k 0 + 1),.taken)
def dm (l:List Nat) (k:Nat):List Nat×Wd:=if l.getD k 0 = 0 then (l,.none) else (l.set k (l.getD k 0 - 1),.served)
def idx (l:List Nat) (x:Nat):Nat:=l.findIdx (fun y=>y == x)
def maxN (l:List Nat):Nat:=l.foldl max 0
def bq (h:Hall) (l:List Nat):Option (Nat×Nat):=if h.mv = true∧0∈l∧2≤maxN l then some (idx l (maxN l),idx l 0) else none
def bW (l:List Nat) (p:Nat×Nat):List Nat:=(l.set p.1 (l.getD p.1 0 - 1)).set p.2 ((l.set p.1 (l.getD p.1 0 - 1)).getD p.2 0 + 1)
def ca (h:Hall):Nat→List Nat→List Nat
 | 0,l=>l
 | n + 1,l=>match bq h l with
  | none=>l
  | some p=>ca h n (bW l p)
def cW (h:Hall) (l:List Nat):List Nat:=ca h (l.count 0) l
theorem iO:∀ (l:List Nat) (a:Nat),a≤l.foldl max a∧(∀ x∈l,x≤l.foldl max a)∧(l.foldl max a = a∨l.foldl max a∈l)
 | [],a=>⟨Nat.le_refl _,(fun _ h=>by cases h),.inl rfl⟩
 | y :: l,a=>by
  obtain ⟨h1,h2,h3⟩:=iO l (max a y)
  refine ⟨Nat.le_trans (Nat.le_max_left a y) h1,fun x hx=>?_,?_⟩
  ·rcases List.mem_cons.mp hx with rfl | hx
   ·exact Nat.le_trans (Nat.le_max_right a x) h1
   ·exact h2 x hx
  ·rcases h3 with h3 | h3
   ·show (List.foldl max (max a y) l = a)∨_
    rw [h3]
    by_cases hy:a≤y
    ·right
     show List.foldl max (max a y) l∈y :: l
     rw [h3,Nat.max_eq_right hy]; exact List.mem_cons_self
    ·left; exact Nat.max_eq_left (by omega)
   ·exact .inr (List.mem_cons_of_mem _ h3)
theorem m6 {l:List Nat}:∀ x∈l,x≤maxN l:=(iO l 0).2.1
theorem fv {l:List Nat} (h:l≠[]):maxN l∈l:=by
 rcases (iO l 0).2.2 with e | e
 ·cases l with
  | nil=>exact (h rfl).elim
  | cons x l =>
   have:x≤maxN (x :: l):=m6 x List.mem_cons_self
   have e':maxN (x :: l) = 0:=e
   have hx:x = 0:=by omega
   rw [e',←hx]; exact List.mem_cons_self
 ·exact e
theorem dQ {l:List Nat} {x:Nat} (h:x∈l):l[idx l x]? = some x∧∀ i y,i < idx l x→l[i]? = some y→y≠x:=by
 have hlt:idx l x < l.length:=List.findIdx_lt_length_of_exists ⟨x,h,by simp⟩
 refine ⟨?_,fun i y hi hy e=>?_⟩
 ·rw [List.getElem?_eq_getElem hlt]
  have:=List.findIdx_getElem (w:=hlt)
  simp at this
  exact congrArg some this
 ·subst e
  have:=List.not_of_lt_findIdx hi
  have hi':i < l.length:=by have:idx l y < l.length:=hlt; omega
  rw [List.getElem?_eq_getElem hi'] at hy
  simp at this
  exact this (Option.some.inj hy)
theorem bZ (a b:Nat):PyData.eqv (.int (a:Int)) (.int (b:Int)) = decide (a = b):=by
 simp only [PyData.eqv]
 by_cases h:a = b
 ·subst h; simp
 ·have:¬ ((a:Int) = (b:Int)):=fun z=>h (Int.ofNat.inj z)
  simp [h,this]
theorem dL (l:List Nat):∀ y∈natD l,Shp 0 y:=fun y hy=>by
 obtain ⟨x,_,rfl⟩:=List.mem_map.mp hy
 exact d8 _
theorem yc (l:List Nat) (k x:Nat):(natD l).set k (.int (x:Int)) = natD (l.set k x):=by
 unfold natD; rw [List.map_set]
def oy:SpM:=fun as K=>∃ (l:List Nat) (k:Nat) (d:Int) (x:Nat),as = [.imm (lnD l),.imm (.int (k:Int)),.imm (.int d)]∧k < l.length∧l.length≤1000∧(l.getD k 0:Int) + d = (x:Int)∧K (.imm (lnD (l.set k x))) []
def lwD (p:List Nat×Wd):PyData:=.tuple [lnD p.1,.str p.2.s]
def yM:SpM:=fun as K=>∃ (h:Hall) (l:List Nat) (k:Nat),as = [.imm h.d,.imm (lnD l),.imm (.int (k:Int))]∧h.Ok∧Lines h l∧k < h.ss.length∧K (.imm (lwD (dn h l k))) []
def yy:SpM:=fun as K=>∃ (l:List Nat) (k:Nat),as = [.imm (lnD l),.imm (.int (k:Int))]∧k < l.length∧l.length≤1000∧K (.imm (lwD (dm l k))) []
def optP:Option (Nat×Nat)→PyData
 | none=>.none
 | some p=>.tuple [.int (p.1:Int),.int (p.2:Int)]
def rF:SpM:=fun as K=>∃ (h:Hall) (l:List Nat),as = [.imm h.d,.imm (lnD l)]∧l≠[]∧l.length≤1000∧K (.imm (optP (bq h l))) []
def lz:SpM:=fun as K=>∃ (h:Hall) (l:List Nat),as = [.imm h.d,.imm (lnD l)]∧l≠[]∧l.length≤1000∧K (.imm (lnD (cW h l))) []
theorem cU {h:Hall} {l:List Nat} {p:Nat×Nat} (e:bq h l = some p):h.mv = true∧l[p.1]? = some (maxN l)∧2≤maxN l∧l[p.2]? = some 0∧p.1≠p.2:=by
 unfold bq at e
 split at e
 ·rename_i q
  obtain ⟨q1,q2,q3⟩:=q
  have hne:l≠[]:=fun z=>by rw [z] at q2; cases q2
  have s1:=(dQ (fv hne)).1
  have s0:=(dQ q2).1
  cases e
  refine ⟨q1,s1,q3,s0,fun z=>?_⟩
  have z':idx l (maxN l) = idx l 0:=z
  rw [z',s0] at s1
  have:=Option.some.inj s1
  omega
 ·cases e
theorem dR {h:Hall} {l:List Nat} {p:Nat×Nat} (e:bq h l = some p):bW l p = (l.set p.1 (maxN l - 1)).set p.2 1∧p.1 < l.length∧p.2 < l.length∧(bW l p).count 0 + 1 = l.count 0∧(bW l p).length = l.length:=by
 obtain ⟨h0,h1,h2,h3,h4⟩:=cU e
 have l1:=(List.getElem?_eq_some_iff.mp h1).1
 have l2:=(List.getElem?_eq_some_iff.mp h3).1
 have g1:l.getD p.1 0 = maxN l:=bF h1
 have g2:(l.set p.1 (maxN l - 1)).getD p.2 0 = 0:=bF (by rw [List.getElem?_set_ne h4]; exact h3)
 have es:bW l p = (l.set p.1 (maxN l - 1)).set p.2 1:=by unfold bW; rw [g1,g2]
 have v1:l[p.1] = maxN l:=by rw [List.getElem?_eq_getElem l1] at h1; exact Option.some.inj h1
 have v2:l[p.2] = 0:=by rw [List.getElem?_eq_getElem l2] at h3; exact Option.some.inj h3
 refine ⟨es,l1,l2,?_,by rw [es,List.length_set,List.length_set]⟩
 have c0 : 0 < l.count 0:=List.count_pos_iff.mpr (List.mem_of_getElem? h3)
 have l2':p.2 < (l.set p.1 (maxN l - 1)).length:=by rw [List.length_set]; exact l2
 have v2':(l.set p.1 (maxN l - 1))[p.2] = 0:=by rw [List.getElem_set_ne h4]; exact v2
 rw [es,List.count_set l2',List.count_set l1,v2',v1]
 have d1:(maxN l == 0) = false:=by simp; omega
 have d2:(maxN l - 1 == 0) = false:=by simp; omega
 rw [d1,d2]
 simp
 omega
theorem lF {h:Hall} {l:List Nat} (e:bq h l = none):∀ n,ca h n l = l
 | 0=>rfl
 | n + 1=>by simp [ca,e]
def qU (h:Hall) (r:Rule) (t:Nat):Nat:=match r with
 | .turns=>(t + 1) % h.ss.length
 | _=>t
def rB:SpM:=fun as K=>∃ (h:Hall) (r:Rule) (t:Nat),as = [.imm h.d,.imm r.d,.imm (.int (t:Int))]∧h.Ok∧K (.imm (.int (qU h r t:Nat))) []
def xw (h:Hall) (r:Rule) (l:List Nat) (t:Nat):Mv→PyData
 | .come o=>.int (sent h r l t o:Nat)
 | .done k=>.int (k:Int)
 | .still=>.none
def kA:SpM:=fun as K=>∃ (h:Hall) (r:Rule) (l:List Nat) (t:Nat) (mv:Mv),as = [.imm h.d,.imm r.d,.imm (stD l t),.imm mv.d]∧h.Ok∧r.Ok h∧Lines h l∧mv.Ok h∧K (.imm (xw h r l t mv)) []
def jd (h:Hall) (r:Rule) (l:List Nat) (t:Nat):Mv→List Nat×Nat×Wd
 | .come o=>(cW h (dn h l (sent h r l t o)).1,qU h r t,(dn h l (sent h r l t o)).2)
 | .done k=>(cW h (dm l k).1,t,(dm l k).2)
 | .still=>(cW h l,t,.none)
def mvD (p:List Nat×Nat×Wd):PyData:=.tuple [stD p.1 p.2.1,.str p.2.2.s]
def uw:SpM:=fun as K=>∃ (h:Hall) (r:Rule) (l:List Nat) (t:Nat) (mv:Mv),as = [.imm h.d,.imm r.d,.imm (stD l t),.imm mv.d]∧h.Ok∧r.Ok h∧Lines h l∧mv.Ok h∧(r = .turns→t < h.ss.length)∧K (.imm (mvD (jd h r l t mv))) []
theorem nV {h:Hall} {r:Rule} {l:List Nat} {t:Nat} {o:List Nat} (ho:h.Ok) (hr:r.Ok h) (hL:Lines h l) (hO:Ord h.ss.length o) (ht:r = .turns→t < h.ss.length):sent h r l t o < h.ss.length:=by
 cases r with
 | random=>obtain ⟨k0,k1,rfl,h0⟩:=hO.cons; exact h0
 | turns=>exact ht rfl
 | two=>exact iM (lt:=cw l) hO 2
 | least=>have:=iM (lt:=cw l) hO o.length; rw [List.take_length] at this; exact this
 | quick=>have:=iM (lt:=cb h l) hO o.length; rw [List.take_length] at this; exact this
 | told ps =>
  have hlt:placeF 0 h.rs l < ps.length:=by rw [hr.1,allR_cnt]; exact place_lt hL.fits
  exact hr.2 _ (List.mem_of_getElem? (getN rfl hlt))
def pk:SpM:=fun as K=>∃ (h:Hall) (l:List Nat),as = [.imm h.d,.imm (.list (natD l))]∧l≠[]∧l.length≤1000∧K (.imm (optP (bq h l))) []
theorem Lines.set {h:Hall} {l:List Nat} {k x:Nat} (hL:Lines h l) (hx:∀ s,h.ss[k]? = some s→x≤s.r):Lines h (l.set k x):=by
 refine ⟨by rw [List.length_set]; exact hL.1,fun i s y e1 e2=>?_⟩
 by_cases hi:k = i
 ·subst hi
  have hlt:k < l.length:=by rw [hL.1]; exact (List.getElem?_eq_some_iff.mp e1).1
  rw [List.getElem?_set_self hlt] at e2
  cases e2
  exact hx s e1
 ·rw [List.getElem?_set_ne hi] at e2
  exact hL.2 i s y e1 e2
theorem Lines.at {h:Hall} {l:List Nat} {k:Nat} (hL:Lines h l) (hk:k < h.ss.length):∃ s,h.ss[k]? = some s∧l.getD k 0≤s.r∧h.rn k = s.r∧s∈h.ss:=by
 obtain ⟨s,es,ea,eb,hs⟩:=h.srv hk
 exact ⟨s,es,hL.2 k s _ es (getN hL.1 hk),bF (Hall.rs_get es),hs⟩
theorem p6 {h:Hall} {l:List Nat} {k:Nat} (hL:Lines h l) (hk:k < h.ss.length):Lines h (dn h l k).1:=by
 obtain ⟨s,es,hle,er,hs⟩:=hL.at hk
 unfold dn
 split
 ·exact hL
 ·rename_i hne
  refine hL.set fun s' e'=>?_
  rw [es] at e'; cases e'
  omega
theorem qp {h:Hall} {l:List Nat} {k:Nat} (hL:Lines h l) (hk:k < h.ss.length):Lines h (dm l k).1:=by
 obtain ⟨s,es,hle,er,hs⟩:=hL.at hk
 unfold dm
 split
 ·exact hL
 ·refine hL.set fun s' e'=>?_
  rw [es] at e'; cases e'
  omega
theorem fh {h:Hall} (ho:h.Ok):∀ (n:Nat) (l:List Nat),Lines h l→Lines h (ca h n l)
 | 0,l,hL=>hL
 | n + 1,l,hL=>by
  simp only [ca]
  cases e:bq h l with
  | none=>exact hL
  | some p =>
   obtain ⟨es,l1,l2,hc,hlen⟩:=dR e
   obtain ⟨m0,m1,m2,m3,m4⟩:=cU e
   refine fh ho n _ ?_
   rw [es]
   refine (hL.set (k:=p.1) (x:=maxN l - 1) fun s e1=>?_).set fun s e1=>(ho.ok s (List.mem_of_getElem? e1)).r1
   have:=hL.2 p.1 s _ e1 m1
   omega
theorem dw {h:Hall} (ho:h.Ok) {l:List Nat} (hL:Lines h l):Lines h (cW h l):=fh ho _ _ hL
structure St (h:Hall) (r:Rule) (l:List Nat) (t:Nat):Prop where
 ln:Lines h l
 tn:r = .turns→t < h.ss.length
 ts:t < 4
theorem w4 {h:Hall} (ho:h.Ok) {r:Rule} {t:Nat} (hs:t < 4) (ht:r = .turns→t < h.ss.length):(r = .turns→qU h r t < h.ss.length)∧qU h r t < 4:=by
 have n1:=ho.n1
 have n4:=ho.n4
 cases r with
 | turns =>
  have:=Nat.mod_lt (t + 1) (show h.ss.length > 0 by omega)
  exact ⟨fun _=>this,by show (t + 1) % h.ss.length < 4; omega⟩
 | _=>exact ⟨(fun z=>by cases z),hs⟩
theorem vi {h:Hall} (ho:h.Ok) {r:Rule} (hr:r.Ok h) {l:List Nat} {t:Nat} (S:St h r l t) {mv:Mv} (hm:mv.Ok h):St h r (jd h r l t mv).1 (jd h r l t mv).2.1:=by
 cases mv with
 | come o =>
  have:=w4 ho S.ts S.tn
  exact ⟨dw ho (p6 S.ln (nV ho hr S.ln hm S.tn)),this.1,this.2⟩
 | done k=>exact ⟨dw ho (qp S.ln hm),S.tn,S.ts⟩
 | still=>exact ⟨dw ho S.ln,S.tn,S.ts⟩
def zer (h:Hall):List Nat:=List.replicate h.ss.length 0
theorem wQ {h:Hall} (ho:h.Ok) (r:Rule):St h r (zer h) 0:=by
 refine ⟨⟨by simp [zer],fun i s x e1 e2=>?_⟩,fun _=>ho.n1,by decide⟩
 have:x = 0:=by
  have:=List.mem_of_getElem? e2
  unfold zer at this
  exact (List.mem_replicate.mp this).2
 omega
def tw:SpM:=fun as K=>∃ h:Hall,as = [.imm h.d]∧h.Ok∧K (.imm (stD (zer h) 0)) []
structure Cn where
 c:Nat
 t:Nat
 a:Nat
 s:Nat
def Cn.d (x:Cn):PyData:=.tuple [.int (x.c:Int),.int (x.t:Int),.int (x.a:Int),.int (x.s:Int)]
def Cn.b (x:Cn):Wd→Cn
 | .taken=>⟨x.c + 1,x.t + 1,x.a,x.s⟩
 | .away=>⟨x.c + 1,x.t,x.a + 1,x.s⟩
 | .served=>⟨x.c,x.t,x.a,x.s + 1⟩
 | .none=>x
def CY:SpM:=fun as K=>∃ (x:Cn) (w:Wd),as = [.imm x.d,.imm (.str w.s)]∧K (.imm (x.b w).d) []
def akL (A:List (List Nat)):List PyData:=A.map lnD
def akD (A:List (List Nat)):PyData:=.tuple (akL A)
def szs (A:List (List Nat)):List Nat:=A.map List.length
def da (A:List (List Nat)) (p:Nat×Nat):List (List Nat):=(A.set p.2 ((A.getD p.1 []).drop ((A.getD p.1 []).length - 1))).set p.1 (A.getD p.1 []).dropLast
def askN (h:Hall):Nat→List (List Nat)→List (List Nat)
 | 0,A=>A
 | n + 1,A=>match bq h (szs A) with
  | none=>A
  | some p=>askN h n (da A p)
def cZ (h:Hall) (A:List (List Nat)):List (List Nat):=askN h ((szs A).count 0) A
theorem ub {h:Hall} {A:List (List Nat)} (e:bq h (szs A) = none):∀ n,askN h n A = A
 | 0=>rfl
 | n + 1=>by simp [askN,e]
theorem qJ {h:Hall} {A:List (List Nat)} {p:Nat×Nat} (e:bq h (szs A) = some p):szs (da A p) = bW (szs A) p:=by
 obtain ⟨es,l1,l2,hc,hlen⟩:=dR e
 obtain ⟨m0,m1,m2,m3,m4⟩:=cU e
 have hl:(A.getD p.1 []).length = maxN (szs A):=by
  obtain ⟨x,ex,e2,_⟩:=gmap m1
  rw [bF ex]; exact e2.symm
 rw [es]
 unfold da szs
 rw [List.map_set,List.map_set,List.length_dropLast,List.length_drop,hl]
 have:maxN (szs A) - (maxN (szs A) - 1) = 1:=by omega
 rw [this]
 exact (List.set_comm _ _ m4).symm
def yD:SpM:=fun as K=>∃ (h:Hall) (A:List (List Nat)),as = [.imm h.d,.own (akL A)]∧A≠[]∧A.length≤4∧(∀ x∈A,x.length≤1000)∧K (.imm (akD (cZ h A))) [akL A]
def askB (A:List (List Nat)) (k:Nat) (w:Wd) (num:Nat):List (List Nat):=match w with
 | .taken=>A.set k (A.getD k []++[num])
 | .served=>A.set k ((A.getD k []).drop 1)
 | _=>A
theorem c8 (A:List (List Nat)):(szs A).length = A.length:=by simp [szs]
theorem f8 (A:List (List Nat)):(akL A).length = A.length:=by simp [akL]
theorem jR {A:List (List Nat)} {k:Nat} (hk:k < A.length):(akL A)[k]? = some (lnD (A.getD k [])):=by
 unfold akL
 rw [List.getElem?_map,bF (List.getElem?_eq_getElem hk),List.getElem?_eq_getElem hk]; rfl
theorem ke (A:List (List Nat)) (k:Nat) (x:List Nat):(akL A).set k (lnD x) = akL (A.set k x):=by unfold akL; rw [List.map_set]
theorem sx {A:List (List Nat)} {k:Nat}:(szs A).getD k 0 = (A.getD k []).length:=by
 by_cases hk:k < A.length
 ·rw [bF (x:=(A.getD k []).length) (by unfold szs; rw [List.getElem?_map,bF (List.getElem?_eq_getElem hk),List.getElem?_eq_getElem hk]; rfl)]
 ·rw [List.getD_eq_getElem?_getD,List.getD_eq_getElem?_getD,List.getElem?_eq_none (by rw [c8]; omega),List.getElem?_eq_none (by omega)]; rfl
theorem rf (A:List (List Nat)) (k:Nat) (x:List Nat):szs (A.set k x) = (szs A).set k x.length:=by unfold szs; rw [List.map_set]
theorem og {h:Hall}:∀ (n:Nat) (A:List (List Nat)),szs (askN h n A) = ca h n (szs A)
 | 0,A=>rfl
 | n + 1,A=>by
  simp only [askN,ca]
  cases e:bq h (szs A) with
  | none=>rfl
  | some p=>show szs (askN h n (da A p)) = ca h n (bW (szs A) p); rw [og n,qJ e]
theorem kR (h:Hall) (A:List (List Nat)):szs (cZ h A) = cW h (szs A):=og _ _
def yB:SpM:=fun as K=>∃ (h:Hall) (A:List (List Nat)) (ld:PyData) (k:Nat) (w:Wd) (num:Nat),as = [.imm h.d,.imm (akD A),.imm ld,.imm (.str w.s),.imm (.int (num:Int))]∧A≠[]∧A.length≤4∧(∀ x∈A,x.length≤900)∧(w = .taken∨w = .served→ld = .int (k:Int)∧k < A.length)∧K (.imm (akD (cZ h (askB A k w num)))) []
structure Sc where
 l:List Nat
 t:Nat
 c:Cn
 A:List (List Nat)
def Sc.d (x:Sc):PyData:=.tuple [stD x.l x.t,x.c.d,akD x.A]
structure Sc.Ok (h:Hall) (r:Rule) (x:Sc):Prop where
 st:St h r x.l x.t
 sz:szs x.A = x.l
def kOf (h:Hall) (r:Rule) (l:List Nat) (t:Nat):Mv→Nat
 | .come o=>sent h r l t o
 | .done k=>k
 | .still=>0
def Sc.nx (h:Hall) (r:Rule) (x:Sc) (mv:Mv):Sc :=
 ⟨(jd h r x.l x.t mv).1,(jd h r x.l x.t mv).2.1,x.c.b (jd h r x.l x.t mv).2.2,cZ h (askB x.A (kOf h r x.l x.t mv) (jd h r x.l x.t mv).2.2 x.c.c)⟩
def sc0 (h:Hall):Sc:=⟨zer h,0,⟨0,0,0,0⟩,List.replicate h.ss.length []⟩
theorem FX {h:Hall} (ho:h.Ok) (r:Rule):(sc0 h).Ok h r:=⟨wQ ho r,by simp [sc0,szs,zer]⟩
theorem yj {h:Hall} (ho:h.Ok) {r:Rule} (hr:r.Ok h) {l:List Nat} {t:Nat} (S:St h r l t) {mv:Mv} (hm:mv.Ok h):kOf h r l t mv < h.ss.length:=by
 cases mv with
 | come o=>exact nV ho hr S.ln hm S.tn
 | done k=>exact hm
 | still=>exact ho.n1
theorem Sc.nx_ok {h:Hall} (ho:h.Ok) {r:Rule} (hr:r.Ok h) {x:Sc} (X:x.Ok h r) {mv:Mv} (hm:mv.Ok h):(x.nx h r mv).Ok h r:=by
 refine ⟨vi ho hr X.st hm,?_⟩
 show szs (cZ h _) = _
 rw [kR]
 have hk:=yj ho hr X.st hm
 cases mv with
 | come o =>
  show cW h (szs (askB x.A (sent h r x.l x.t o) (dn h x.l (sent h r x.l x.t o)).2 x.c.c)) = cW h (dn h x.l (sent h r x.l x.t o)).1
  congr 1
  unfold dn
  split
  ·exact X.sz
  ·show szs (x.A.set _ _) = _
   rw [rf,X.sz,List.length_append,←sx,X.sz]; rfl
 | done k =>
  show cW h (szs (askB x.A k (dm x.l k).2 x.c.c)) = cW h (dm x.l k).1
  congr 1
  unfold dm
  split
  ·exact X.sz
  ·show szs (x.A.set _ _) = _
   rw [rf,X.sz,List.length_drop,←sx,X.sz]
 | still =>
  show cW h (szs x.A) = cW h x.l
  rw [X.sz]
def wdOf (h:Hall) (r:Rule) (x:Sc) (mv:Mv):Wd:=(jd h r x.l x.t mv).2.2
def oA:SpM:=fun as K=>∃ h:Hall,as = [.imm h.d]∧h.Ok∧K (.imm (sc0 h).d) []
def o6:SpM:=fun as K=>∃ (h:Hall) (r:Rule) (x:Sc) (mv:Mv),as = [.imm h.d,.imm r.d,.imm x.d,.imm mv.d]∧h.Ok∧r.Ok h∧x.Ok h r∧mv.Ok h∧K (.imm (.tuple [(x.nx h r mv).d,.str (wdOf h r x mv).s])) []
def runD (R:List Mv):PyData:=.tuple (R.map Mv.d)
theorem qO (ds:List PyData):cutD ds (some (-1)) none = ds.drop (ds.length - 1):=by
 unfold cutD
 have e1:HT.sIx ds.length ds.length none = ds.length:=by simp [HT.sIx]
 have e2:HT.sIx ds.length 0 (some (-1)) = ds.length - 1:=by
  simp only [HT.sIx]; rw [if_pos (by decide)]; omega
 rw [e1,e2,List.take_of_length_le (by rw [List.length_drop]; omega)]
theorem rg (ds:List PyData):cutD ds none (some (-1)) = ds.dropLast:=by
 unfold cutD
 have e1:HT.sIx ds.length 0 none = 0:=by simp [HT.sIx]
 have e2:HT.sIx ds.length ds.length (some (-1)) = ds.length - 1:=by
  simp only [HT.sIx]; rw [if_pos (by decide)]; omega
 rw [e1,e2,List.drop_zero,Nat.sub_zero,List.dropLast_eq_take]
theorem lx (l:List Nat) (n:Nat):(natD l).drop n = natD (l.drop n):=by unfold natD; rw [List.map_drop]
theorem tx (l:List Nat):(natD l).dropLast = natD l.dropLast:=by unfold natD; rw [List.map_dropLast]
theorem szs_get? {A:List (List Nat)} {i:Nat} {x:List Nat} (h:A[i]? = some x):(szs A)[i]? = some x.length:=by simp [szs,h]
theorem n6 {A:List (List Nat)} {i:Nat} {x:List Nat} (h:A[i]? = some x):natD ((szs A).take (i + 1)) = natD ((szs A).take i)++[.int (x.length:Int)]:=by
 rw [List.take_add_one,szs_get? h,oH]; rfl
def Mv.Ok2 (h:Hall) (mv:Mv):Prop:=mv.Ok h∧∀ o,mv = .come o→o.length = h.ss.length
def scF (h:Hall) (r:Rule):Sc→List Mv→Sc
 | x,[]=>x
 | x,mv :: R=>scF h r (x.nx h r mv) R
theorem yr {h:Hall} (ho:h.Ok) {r:Rule} (hr:r.Ok h):∀ {R:List Mv} {x:Sc},(∀ mv∈R,mv.Ok h)→x.Ok h r→(scF h r x R).Ok h r
 | [],x,_,X=>X
 | mv :: R,x,hR,X=>yr ho hr (R:=R) (fun m hm=>hR m (List.mem_cons_of_mem _ hm)) (Sc.nx_ok ho hr X (hR mv List.mem_cons_self))
theorem oa {h:Hall} {r:Rule}:∀ {R:List Mv} {x:Sc} {mv:Mv},scF h r x (R++[mv]) = (scF h r x R).nx h r mv
 | [],x,mv=>rfl
 | m :: R,x,mv=>oa (R:=R)
end K
namespace M8
end M8
namespace L2
open PySem PySem.Spec PyProof.Rows
section
variable {κ : Type} [DecidableEq κ]
def valV (kvs:List (κ×V)) (k : κ):Option V:=(kvs.find? fun kv=>decide (kv.1 = k)).map (·.2)
def putK (kvs:List (κ×V)) (k : κ) (v:V):List (κ×V) :=
 if (kvs.any fun kv=>decide (kv.1 = k)) = true then kvs.map (fun kv=>if kv.1 = k then (kv.1,v) else kv) else kvs++[(k,v)]
theorem cI {p : κ×V} {r:List (κ×V)} {k : κ} (e:p.1 = k):valV (p :: r) k = some p.2:=by simp [valV,List.find?_cons,e]
theorem cF {p : κ×V} {r:List (κ×V)} {k : κ} (e:¬ p.1 = k):valV (p :: r) k = valV r k:=by simp [valV,List.find?_cons,e]
theorem j3 (k : κ):∀ kvs:List (κ×V),(kvs.any fun kv=>decide (kv.1 = k)) = (valV kvs k).isSome
 | []=>rfl
 | p :: r=>by
  rw [List.any_cons]
  by_cases e:p.1 = k
  ·simp only [cI e,decide_eq_true e,Bool.true_or,Option.isSome_some]
  ·rw [cF e,decide_eq_false e,Bool.false_or]; exact j3 k r
theorem lr (k j : κ) (y:V):∀ kvs:List (κ×V),valV kvs k = none→valV (kvs++[(k,y)]) j = if j = k then some y else valV kvs j
 | [],_=>by
  by_cases e:k = j
  ·rw [if_pos e.symm]; exact cI (p:=(k,y)) e
  ·rw [if_neg (fun z=>e z.symm)]; exact cF (p:=(k,y)) e
 | p :: r,hn=>by
  rw [List.cons_append]
  have hk:¬ p.1 = k:=fun z=>by rw [cI z] at hn; cases hn
  rw [cF hk] at hn
  have ih:=lr k j y r hn
  by_cases e:p.1 = j
  ·rw [cI e,cI e,if_neg (fun z=>hk (e.trans z))]
  ·rw [cF e,cF e,ih]
theorem e8 (kvs:List (κ×V)) (k : κ) (v:V):(putK kvs k v).length≤kvs.length + 1:=by
 unfold putK
 split
 ·rw [List.length_map]; omega
 ·rw [List.length_append,List.length_cons,List.length_nil]; omega
theorem xW {kvs:List (κ×V)} {k : κ} (v:V) (h:valV kvs k = none):putK kvs k v = kvs++[(k,v)]:=by
 unfold putK
 rw [j3,h]
 exact if_neg (by decide)
theorem RelO.isSome_eq {o:Option V} {u:Option Value} (r:RelO o u):o.isSome = u.isSome:=by
 cases o with
 | none=>cases u with
  | none=>rfl
  | some _=>exact (show False from r).elim
 | some _=>cases u with
  | none=>exact (show False from r).elim
  | some _=>rfl
theorem KV.val {kvs:List (κ×V)} {vs:List (κ×Value)} (r:KV kvs vs) (k : κ):RelO (valV kvs k) (valueAt vs k):=by
 unfold KV at r
 induction r with
 | nil=>exact True.intro
 | @cons p q ps qs h t ih =>
  obtain ⟨h1,h2⟩:=h
  by_cases e:p.1 = k
  ·have e':q.1 = k:=h1.symm.trans e
   have b:valueAt (q :: qs) k = some q.2:=by simp [valueAt,List.find?_cons,e']
   rw [cI e,b]; exact h2
  ·have e':¬ q.1 = k:=fun z=>e (h1.trans z)
   have b:valueAt (q :: qs) k = valueAt qs k:=by simp [valueAt,List.find?_cons,e']
   rw [cF e,b]; exact ih
theorem KV.any {kvs:List (κ×V)} {vs:List (κ×Value)} (r:KV kvs vs) (k : κ):(kvs.any fun kv=>decide (kv.1 = k)) = vs.any fun kv=>decide (kv.1 = k):=by
 unfold KV at r
 induction r with
 | nil=>rfl
 | cons h t ih=>rw [List.any_cons,List.any_cons,ih,h.1]
theorem KV.repl {kvs:List (κ×V)} {vs:List (κ×Value)} (r:KV kvs vs) (k : κ) {y:V} {u:Value} (ry:RelV y u) :
  KV (kvs.map fun kv=>if kv.1 = k then (kv.1,y) else kv) (vs.map fun kv=>if kv.1 = k then (kv.1,u) else kv):=by
 unfold KV at r ⊢
 induction r with
 | nil=>exact .nil
 | @cons p q ps qs h t ih =>
  rw [List.map_cons,List.map_cons]
  refine .cons ?_ ih
  obtain ⟨h1,h2⟩:=h
  by_cases e:p.1 = k
  ·rw [if_pos e,if_pos (h1.symm.trans e)]; exact ⟨h1,ry⟩
  ·rw [if_neg e,if_neg (fun z=>e (h1.trans z))]; exact ⟨h1,h2⟩
theorem KV.put {kvs:List (κ×V)} {vs:List (κ×Value)} (r:KV kvs vs) (k : κ) {y:V} {u:Value} (ry:RelV y u):KV (putK kvs k y) (stored vs k u):=by
 unfold putK stored
 rw [r.any k]
 by_cases e:(vs.any fun kv=>decide (kv.1 = k)) = true
 ·rw [if_pos e,if_pos e]; exact r.repl k ry
 ·rw [if_neg e,if_neg e]; exact Paired.snoc r ⟨rfl,ry⟩
theorem KV.length {kvs:List (κ×V)} {vs:List (κ×Value)} (r:KV kvs vs):kvs.length = vs.length:=Paired.length r
end
theorem xI {P:Program} {w:World} {k:Key} {u:Value} (r:RelV (kV k) u):(bJ P w).is k u = true:=by
 cases k with
 | inl i=>obtain ⟨t,e⟩:=(show ∃ t,u = Value.int i t from r); subst e; exact mW P w i t
 | inr x=>obtain ⟨t,e⟩:=(show ∃ t,u = Value.str x t from r); subst e; exact my P w x t
theorem lL {P:Program} {w:World}:∀ {ks:List Key} {us:List Value},Vals (ks.map kV) us→ItemsAre (bJ P w) ks us
 | [],_,r=>by rw [List.map_nil] at r; cases r; exact .nil
 | k :: ks,_,r=>by
  rw [List.map_cons] at r
  cases r with
  | cons h t=>exact .cons (xI h) (lL t)
abbrev KT (H:Hp):List (List Key×V)→List (List Key×Addr×Value)→Prop:=Paired fun p q=>p.1 = q.1∧H q.2.1 = some (.tup (p.1.map kV))∧RelV p.2 q.2.2
theorem KT.val {H:Hp} {kvs:List (List Key×V)} {xs:List (List Key×Addr×Value)} (r:KT H kvs xs) (k:List Key):RelO (valV kvs k) ((atKey xs k).map (·.2)):=by
 induction r with
 | nil=>exact True.intro
 | @cons p q ps qs h t ih =>
  obtain ⟨h1,_,h2⟩:=h
  by_cases e:p.1 = k
  ·have e':q.1 = k:=h1.symm.trans e
   have b:atKey (q :: qs) k = some q.2:=by simp [atKey,List.find?_cons,e']
   rw [cI e,b]; exact h2
  ·have e':¬ q.1 = k:=fun z=>e (h1.trans z)
   have b:atKey (q :: qs) k = atKey qs k:=by simp [atKey,List.find?_cons,e']
   rw [cF e,b]; exact ih
theorem KT.repl {H:Hp} {kvs:List (List Key×V)} {xs:List (List Key×Addr×Value)} (r:KT H kvs xs) (k:List Key) {y:V} {u:Value} (ry:RelV y u) :
  KT H (kvs.map fun kv=>if kv.1 = k then (kv.1,y) else kv) (xs.map (putAt k u)):=by
 induction r with
 | nil=>exact .nil
 | @cons p q ps qs h t ih =>
  rw [List.map_cons,List.map_cons]
  refine .cons ?_ ih
  obtain ⟨h1,h2,h3⟩:=h
  unfold putAt
  by_cases e:p.1 = k
  ·rw [if_pos e,if_pos (h1.symm.trans e)]; exact ⟨h1,h2,ry⟩
  ·rw [if_neg e,if_neg (fun z=>e (h1.trans z))]; exact ⟨h1,h2,h3⟩
theorem KT.put {H:Hp} {kvs:List (List Key×V)} {xs:List (List Key×Addr×Value)} (r:KT H kvs xs) (k:List Key) {b:Addr} {y:V} {u:Value} (hb:H b = some (.tup (k.map kV))) (ry:RelV y u) :
  KT H (putK kvs k y) (storedH xs k b u):=by
 have e:(kvs.any fun kv=>decide (kv.1 = k)) = (atKey xs k).isSome:=by
  rw [j3,(r.val k).isSome_eq,Option.isSome_map]
 unfold putK storedH
 rw [e]
 by_cases q:(atKey xs k).isSome = true
 ·rw [if_pos q,if_pos q]; exact r.repl k ry
 ·rw [if_neg q,if_neg q]; exact Paired.snoc r ⟨rfl,hb,ry⟩
theorem KT.keeps {H H':Hp} {kvs:List (List Key×V)} {xs:List (List Key×Addr×Value)} (r:KT H kvs xs) (ht:∀ b ys,H b = some (.tup ys)→H' b = some (.tup ys)):KT H' kvs xs :=
 Paired.mapP r fun _ _ z=>⟨z.1,ht _ _ z.2.1,z.2.2⟩
section
variable {P:Program} {w:World} {H:Hp} {h:Heap} {a:Addr}
theorem Fc {u:HO} (ok:HOk P w H h) (e:Rd H a u):ObjOk P w H h a u:=e.ok ok
theorem y9 {kvs:List (Key×V)} (ok:HOk P w H h) (e:Rd H a (.dK kvs)):kvs.length≤sizeLine∧(a == sysModules) = false∧∃ vs,KV kvs vs∧h.DictOf (bJ P w) a vs :=
 show ObjOk P w H h a (.dK kvs) from Fc ok e
theorem C5 {kvs:List (Key×V)} (ok:HOk P w H h) (e:H a = some (.dK kvs)):kvs.length≤sizeLine∧(a == sysModules) = false∧∃ vs,KV kvs vs∧h.DictOf (bJ P w) a vs:=y9 ok (.inl e)
theorem ua {ks:List Key} (ok:HOk P w H h) (e:H a = some (.tup (ks.map kV))):(tupleKind (bJ P w)).is h ks a:=by
 obtain ⟨_,its,r,o,h1,h2,hd,n,h3⟩:=(show ObjOk P w H h a (.tup (ks.map kV)) from ok a _ e)
 exact ⟨o,its.toArray,n,h1,h2,h3,by simpa using lL r⟩
theorem Cv {kvs:List (List Key×V)} (ok:HOk P w H h) (e:Rd H a (.dT kvs)):kvs.length≤sizeLine∧(a == sysModules) = false ∧
  ∃ xs,KT H kvs xs∧h.DictOfH (tupleKind (bJ P w)) a xs:=by
 obtain ⟨z,y,xs,r,o,es,ep,h1,h2,h3,h4,h5⟩:=(show ObjOk P w H h a (.dT kvs) from Fc ok e)
 refine ⟨z,y,xs,r,o,es,ep,h1,h2,h3,h4,fun x hx=>?_,h5⟩
 have all:∀ {l:List (List Key×V)} {m:List (List Key×Addr×Value)},KT H l m→∀ x∈m,(tupleKind (bJ P w)).is h x.1 x.2.1:=by
  intro l m q
  induction q with
  | nil=>intro x hx; exact nomatch hx
  | @cons p q ps qs hq t ih =>
   intro x hx
   rcases List.mem_cons.mp hx with e | hx
   ·subst e
    exact ua ok (by rw [←hq.1]; exact hq.2.1)
   ·exact ih x hx
 exact all r x hx
theorem KL {kvs:List (List Key×V)} (ok:HOk P w H h) (e:H a = some (.dT kvs)):kvs.length≤sizeLine∧(a == sysModules) = false ∧
  ∃ xs,KT H kvs xs∧h.DictOfH (tupleKind (bJ P w)) a xs:=Cv ok (.inl e)
end
def DGet (H:Hp) (a:Addr) (y:V) (r:Option V):Prop :=
 (∃ kvs k,Rd H a (.dK kvs)∧y = kV k∧r = valV kvs k)∨∃ kvs k b,Rd H a (.dT kvs)∧y = .ref b∧H b = some (.tup (k.map kV))∧r = valV kvs k
def DPut (H:Hp) (a:Addr) (y v:V) (H':Hp):Prop :=
 (∃ kvs k,H a = some (.dK kvs)∧y = kV k∧kvs.length < sizeLine∧H' = upd H a (.dK (putK kvs k v))) ∨
 ∃ kvs k b,H a = some (.dT kvs)∧y = .ref b∧H b = some (.tup (k.map kV))∧kvs.length < sizeLine∧H' = upd H a (.dT (putK kvs k v))
theorem DGet.k {H:Hp} {a:Addr} {kvs:List (Key×V)} {k:Key} (e:H a = some (.dK kvs)):DGet H a (kV k) (valV kvs k):=.inl ⟨kvs,k,.inl e,rfl,rfl⟩
theorem DPut.k {H:Hp} {a:Addr} {kvs:List (Key×V)} {k:Key} {v:V} (e:H a = some (.dK kvs)) (hl:kvs.length < sizeLine):DPut H a (kV k) v (upd H a (.dK (putK kvs k v))):=.inl ⟨kvs,k,e,rfl,hl,rfl⟩
section
variable {X:Cx} {pins:List (Addr×Obj)} {σ : St} {H:Hp} {s:Shared} {a:Addr} {y v:V} {u r:Value} {o:Option V} {A:Around} {E:Value→Shared→Prop}
theorem Inv.big (I:Inv X pins σ H s):sysModules < s.heap.objs.size:=by
 have h:mainGlobals < s.heap.objs.size:=(I.mod.glob.keeps I.bk).lt
 exact Nat.lt_trans (by decide) h
theorem uG {Q:Value→Shared→Prop} (hu:A.units + 1 < cLine) (I:Inv X pins σ H s) (g:DGet H a y (some v)) (ry:RelV y u) (h:∀ w' s',Inv X pins σ H s'→RelV v w'→Q w' s') :
  wpAny (model X.prog X.w) A (getItem (.ref a) u) Q E s:=by
 rcases g with ⟨kvs,k,e,ey,l⟩ | ⟨kvs,k,b,e,ey,eb,l⟩
 ·subst ey
  obtain ⟨z,hd,vs,rel,dd⟩:=y9 I.hok e
  obtain ⟨w',hw,rw'⟩:=RelO.some_of (v:=v) (o:=valueAt vs k) (by rw [l]; exact rel.val k)
  exact wpAny_getItem_of (xI ry) dd.mapOf hw (h w' _ (I.tok _) rw')
 ·subst ey
  cases (show u = Value.ref b from ry)
  obtain ⟨z,hd,xs,rel,dd⟩:=Cv I.hok e
  obtain ⟨w',hw,rw'⟩:=RelO.some_of (v:=v) (o:=(atKey xs k).map (·.2)) (by rw [l]; exact rel.val k)
  obtain ⟨p,hp,hp2⟩:=Option.map_eq_some_iff.mp hw
  refine wpAny_getItem_heap (tupleKind_room_in1 hu) (ua I.hok eb) dd hp ?_
  rw [hp2]
  exact h w' _ (I.tok _) rw'
theorem nh {h':Heap} {t':Nat} {ob:HO} (I:Inv X pins σ H s) (mu:Mut (H a)) (hs:Heap.SameBut a s.heap h') (he:∃ q,h'.get? a = some q) (new:ObjOk X.prog X.w (upd H a ob) h' a ob) :
  Inv X pins σ (upd H a ob) { s with heap:=h',toks:=t' } :=
 I.write (x:=a) (e:=a) mu (.inl rfl) (fun b q hb z=>(hs.2 b hb).trans z) he new
theorem yN {P:Program} {w:World} {H':Hp} {h':Heap} {kvs:List (Key×V)} {vs:List (Key×Value)} (z:kvs.length≤sizeLine) (hd:(a == sysModules) = false) (rel:KV kvs vs) (dd:h'.DictOf (bJ P w) a vs) :
  ObjOk P w H' h' a (.dK kvs):=⟨z,hd,vs,rel,dd⟩
theorem r9 {H':Hp} {Q:Unit→Shared→Prop} (hu:A.units + 1 < cLine) (I:Inv X pins σ H s) (g:DPut H a y v H') (ry:RelV y u) (rv:RelV v r) (h:∀ s',Inv X pins σ H' s'→Q () s') :
  wpAny (model X.prog X.w) A (setItem (.ref a) u r) Q E s:=by
 rcases g with ⟨kvs,k,e,ey,l,eH⟩ | ⟨kvs,k,b,e,ey,eb,l,eH⟩
 ·subst ey eH
  obtain ⟨z,hd,vs,rel,dd⟩:=C5 I.hok e
  have hz:vs.length≤sizeLine:=by rw [←rel.length]; exact z
  have hl:(putK kvs k v).length≤sizeLine:=by have:=e8 kvs k v; omega
  refine wpAny_setItem_pairs (hsz:=hz) (xI ry) dd fun h' dd' hs=>h _ ?_
  have he:∃ q,h'.get? a = some q:=let ⟨q,_,_,hq,_⟩:=dd'; ⟨q,hq⟩
  exact nh I (by rw [e]; exact True.intro) hs he (yN hl hd (rel.put k rv) dd')
 ·subst ey eH
  cases (show u = Value.ref b from ry)
  obtain ⟨z,hd,xs,rel,dd⟩:=KL I.hok e
  have hz:xs.length≤sizeLine:=by rw [←Paired.length rel]; exact z
  have hl:(putK kvs k v).length≤sizeLine:=by have:=e8 kvs k v; omega
  refine wpAny_setItem_heap (hsz:=hz) (tupleKind_room_in1 hu) (ua I.hok eb) dd fun h' dd' hs=>h _ ?_
  obtain ⟨q,es,ep,hq,h2,h3,h4,_,h5⟩:=dd'
  refine nh I (by rw [e]; exact True.intro) hs ⟨q,hq⟩ ⟨hl,hd,_,(rel.put k eb rv).keeps fun c ys ec=>?_,q,es,ep,hq,h2,h3,h4,h5⟩
  rw [av (qh ec e (fun z=>nomatch z))]
  exact ec
end
def NoSl (i:Expr):Prop:=∀ ov iv,subscripted i false ov iv = operate [ov,iv] (getItem ov iv)
theorem Bt {prog:Program} {w:World} {A:Around} {E:Value→Shared→Prop} {s:Shared} {env:Env} {value slice:Expr} {pos:Pos} {T id:String} {Q:Value→Shared→Prop}
  (hl:typeLookup (.type T) "__getitem__" = pure (some (.builtin id))) (hs:NoSl slice)
  (h:wpAny (model prog w) A (eval value env) (fun o s₁=>wpAny (model prog w) A (eval slice env) (fun i s₂=>s₂.TypeIs o T∧wpAny (model prog w) A (getItem o i) Q E s₂) E s₁) E s) :
  wpAny (model prog w) A (eval (.Subscript value slice pos) env) Q E s:=by
 refine Subscript_ (wpAny_mono h (fun o s₁ h₁=>wpAny_mono h₁ (fun i s₂ h₂=>?_) fun _ _ x=>x) fun _ _ x=>x)
 obtain ⟨hT,h₂⟩:=h₂
 unfold subscriptTail
 refine wpAny_bind ?_
 rw [getitemInPython_of_ne hT.not_modules]
 refine wpAny_bind (wpAny_specialOf hT hl ?_)
 have fin:wpAny (model prog w) A (subscripted slice false o i) (fun r s₃=>wpAny (model prog w) A (letTemporaryGo value o r >>= fun _=>pure r) Q E s₃) E s₂:=by
  rw [hs o i]
  exact wpAny_operating (wpAny_mono h₂ (fun r s₃ h₃=>wpAny_bind (wpAny_letTemporaryGo (wpAny_pure h₃))) fun _ _ x=>x)
 first
  | exact wpAny_pure (wpAny_bind fin)
  | exact wpAny_bind (wpAny_pure (wpAny_bind fin))
  | exact wpAny_bind fin
theorem mD {X:Cx} {pins:List (Addr×Obj)} {σ : St} {H:Hp} {s:Shared} {a:Addr} {y:V} {o:Option V} (I:Inv X pins σ H s) (g:DGet H a y o):s.TypeIs (.ref a) "dict" := by
 rcases g with ⟨kvs,k,e,_,_⟩ | ⟨kvs,k,b,e,_,_,_⟩
 ·obtain ⟨_,_,vs,_,dd⟩:=y9 I.hok e
  exact dd.typeIs
 ·obtain ⟨_,_,xs,_,dd⟩:=Cv I.hok e
  exact dd.typeIs
def Jx (td ty:TE):TE:=fun σ H Q=>td σ H fun x H1=>ty σ H1 fun y H2=>∃ a v,x = .ref a∧DGet H2 a y (some v)∧Q v H2
def JY (td ty tv:TE):TS:=fun D σ H=>tv σ H fun v H1=>td σ H1 fun x H2=>ty σ H2 fun y H3=>∃ a H4,x = .ref a∧DPut H3 a y v H4∧D.nx σ H4
section
variable {X:Cx} {o i e value:Expr} {pos pos' tpos:Pos} {td ty tv:TE}
theorem B9 (hu:X.A.units + 1 < cLine) (ho:PE X o td) (hi:PE X i ty) (hs:NoSl i):PE X (.Subscript o i pos) (Jx td ty):=by
 intro pins s σ H Q I h
 refine Bt PySem.F.slot_dict_getitem.lookup hs (thn (ho pins s σ H _ I h) fun u s1 ⟨x,H1,I1,rx,q1⟩=>thn (hi pins s1 σ H1 _ I1 q1) fun iv s2 ⟨y,H2,I2,ry,a,v,ex,g,q2⟩=>?_)
 subst ex
 obtain rfl:u = Value.ref a:=rx
 exact ⟨mD I2 g,uG hu I2 g ry fun w' s3 I3 rw'=>⟨v,H2,I3,rw',q2⟩⟩
theorem zw (hu:X.A.units + 1 < cLine) (ho:PE X o td) (hi:PE X i ty) (hv:PE X value tv) (hs:swapsWith value (some (.Subscript o i pos')) pos.line X.env = pure false) :
  PS X (.Assign [.Subscript o i pos'] value pos) (JY td ty tv):=by
 intro pins s σ H D I h
 refine wpAny_Assign_Subscript (thn (hv pins s σ H _ I h) fun r s1 ⟨v,H1,I1,rv,q1⟩=>thn (ho pins s1 σ H1 _ I1 q1) fun u s2 ⟨x,H2,I2,rx,q2⟩=>thn (hi pins s2 σ H2 _ I2 q2) fun iv s3 ⟨y,H3,I3,ry,a,H4,ex,g,q3⟩=>?_) hs
 subst ex
 obtain rfl:u = Value.ref a:=rx
 exact r9 hu I3 g ry rv fun s4 I4=>⟨σ,H4,I4,q3⟩
end
theorem x9 {P:Program} {w:World} {H:Hp} (h:Heap) (hb:sysModules < h.objs.size):ObjOk P w H (h.push { cls:=.type "dict",data:=.dict #[] }) h.objs.size (.dK []) :=
 ⟨Nat.zero_le _,beq_eq_false_iff_ne.mpr (Ne.symm (Nat.ne_of_lt hb)),[],.nil,Heap.DictOf.new h⟩
def o8:List (TE×TE)→St→Hp→(List (V×V)→Hp→Prop)→Prop
 | [],_,H,Q=>Q [] H
 | (tk,tv) :: r,σ,H,Q=>tk σ H fun x H1=>tv σ H1 fun y H2=>o8 r σ H2 fun ps H3=>Q ((x,y) :: ps) H3
abbrev VV:List (V×V)→List (Value×Value)→Prop:=Paired fun p q=>RelV p.1 q.1∧RelV p.2 q.2
def PPs (X:Cx) (pos:Pos) (keys:List (Option Expr)) (values:List Expr) (trs:List (TE×TE)):Prop :=
 ∀ (pins:List (Addr×Obj)) (s:Shared) (σ : St) (H:Hp) (Q:List (V×V)→Hp→Prop),Inv X pins σ H s→o8 trs σ H Q →
  wpAny (model X.prog X.w) X.A (evalPairs (pairTrees keys values X.env pos)) (fun vs s'=>∃ ps H',Inv X pins σ H' s'∧VV ps vs∧Q ps H') X.xe s
theorem zQ {X:Cx} {pos:Pos}:PPs X pos [] [] []:=fun pins s σ H Q I h=>pairTrees_nil_walk ⟨[],H,I,.nil,h⟩
theorem xq {X:Cx} {pos:Pos} {k v:Expr} {ks:List (Option Expr)} {vs:List Expr} {tk tv:TE} {trs:List (TE×TE)} (hk:PE X k tk) (hv:PE X v tv) (hr:PPs X pos ks vs trs) :
  PPs X pos (some k :: ks) (v :: vs) ((tk,tv) :: trs):=fun pins s σ H Q I h =>
 pairTrees_cons_walk (thn (hk pins s σ H _ I h) fun u s1 ⟨x,H1,I1,rx,q1⟩=>thn (hv pins s1 σ H1 _ I1 q1) fun w2 s2 ⟨y,H2,I2,ry,q2⟩ =>
  thn (hr pins s2 σ H2 _ I2 q2) fun ws s3 ⟨ps,H3,I3,rel,q3⟩=>⟨(x,y) :: ps,H3,I3,.cons ⟨rx,ry⟩ rel,q3⟩)
def gz (kvs more:List (Key×V)):List (Key×V):=more.foldl (fun acc kv=>putK acc kv.1 kv.2) kvs
theorem KV.merge:∀ {more:List (Key×V)} {rs:List (Key×Value)} {kvs:List (Key×V)} {vs:List (Key×Value)},KV more rs→KV kvs vs→KV (gz kvs more) (merged vs rs):=by
 intro more rs kvs vs r
 unfold KV at r
 induction r generalizing kvs vs with
 | nil=>intro q; exact q
 | @cons p q ps qs h t ih =>
  intro r0
  have e:KV (putK kvs p.1 p.2) (stored vs q.1 q.2):=by
   have:=r0.put p.1 h.2
   rw [←h.1]; exact this
  exact ih e
theorem fm:∀ (more kvs:List (Key×V)),(gz kvs more).length≤kvs.length + more.length
 | [],kvs=>by show kvs.length≤kvs.length + 0; omega
 | p :: r,kvs=>by
  have h1:=fm r (putK kvs p.1 p.2)
  have h2:=e8 kvs p.1 p.2
  show (gz (putK kvs p.1 p.2) r).length≤_
  rw [List.length_cons]; omega
theorem ju {P:Program} {w:World}:∀ {kvs:List (Key×V)} {ws:List (Value×Value)},VV (kvs.map fun kv=>(kV kv.1,kv.2)) ws→∃ rs,Carries (bJ P w) ws rs∧KV kvs rs
 | [],_,r=>by rw [List.map_nil] at r; cases r; exact ⟨[],True.intro,.nil⟩
 | p :: kvs,_,r=>by
  rw [List.map_cons] at r
  cases r with
  | @cons a b as bs h t =>
   obtain ⟨rs,c,q⟩:=ju (P:=P) (w:=w) t
   obtain ⟨b1,b2⟩:=b
   exact ⟨(p.1,b2) :: rs,⟨xI h.1,rfl,c⟩,.cons ⟨rfl,h.2⟩ q⟩
def JS (trs:List (TE×TE)):TE:=fun σ H Q=>∀ p,H p = none→o8 trs σ (upd H p (.dK [])) fun ps H2=>H2 p = some (.dK [])∧∃ kvs:List (Key×V),ps = kvs.map (fun kv=>(kV kv.1,kv.2))∧kvs.length≤15∧Q (.ref p) (upd H2 p (.dK (gz [] kvs)))
theorem zq {X:Cx} {pos:Pos} {keys:List (Option Expr)} {values:List Expr} {trs:List (TE×TE)} (h:PPs X pos keys values trs) (hall:keys.all (·.isSome) = true) (hl:keys.length = values.length) (h0:keys≠[])
  (h15:keys.length≤15):PE X (.Dict keys values pos) (JS trs):=by
 intro pins s σ H Q I q
 have hn:=I.hok.fresh (Nat.le_refl s.heap.objs.size)
 have I1:=I.laid (a:=s.heap.objs.size) (o:=.dK []) (h':=s.heap.push { cls:=.type "dict",data:=.dict #[] }) (t':=s.toks) (fun _ _ q=>Heap.get?_push_of_some _ q) (Nat.le_refl _) (x9 s.heap I.big)
 refine wpAny_Dict_walk (knd:=bJ X.prog X.w) hall hl h0 h15 (thn (h pins _ σ _ _ I1 (q _ hn)) fun ws s2 ⟨ps,H2,I2,rel,e,kvs,ep,lk,q2⟩=>?_)
 subst ep
 obtain ⟨rs,c,rk⟩:=ju (P:=X.prog) (w:=X.w) rel
 obtain ⟨z,hd,vs0,r0,dd⟩:=C5 I2.hok e
 cases r0
 refine ⟨rs,c,dd,fun h' dd' hs=>⟨.ref s.heap.objs.size,_,?_,rfl,q2⟩⟩
 have hz:(gz [] kvs).length≤sizeLine:=by
  have h1:=fm kvs []
  rw [List.length_nil] at h1
  rw [sizeLine_eq]; omega
 have he:∃ q,h'.get? s.heap.objs.size = some q:=let ⟨q,_,_,hq,_⟩:=dd'; ⟨q,hq⟩
 exact nh I2 (by rw [e]; exact True.intro) hs he (yN hz hd (rk.merge .nil) dd')
section
variable {K:Kd} {H H':Hp} {τ : List (List Nat×Addr)}
mutual
theorem TAt.monoP (pe:Pers H H'):∀ {d:PyData} {p:List Nat} {v:V},(∀ q a,τ.lookup (p++q) = some a→H' a = H a)→TAt K H τ p d v→TAt K H' τ p d v
 | .none,_,_,_,h=>by simp only [TAt] at h ⊢; exact h.mono pe
 | .bool _,_,_,_,h=>by simp only [TAt] at h ⊢; exact h.mono pe
 | .int _,_,_,_,h=>by simp only [TAt] at h ⊢; exact h.mono pe
 | .str _,_,_,_,h=>by simp only [TAt] at h ⊢; exact h.mono pe
 | .tuple _,_,_,_,h=>by simp only [TAt] at h ⊢; exact h.mono pe
 | .list ts,p,_,e,h=>by
  simp only [TAt] at h ⊢
  obtain ⟨a,xs,e1,e2,e3,g⟩:=h
  exact ⟨a,xs,e1,e2,(e [] a (by rw [List.append_nil]; exact e1)).trans e3,TAtL.monoP pe (fun i q a z=>e (i :: q) a z) g⟩
 | .dict kvs,p,_,e,h=>by
  simp only [TAt] at h ⊢
  rcases h with ⟨d,e1,h⟩ | ⟨z1,z2,a,es,e1,e2,e3,k,g⟩ | ⟨z1,z2,a,es,e1,e2,e3,g⟩ | ⟨c,a,dx,C,xs,e0,e1,e2,e3,k,g⟩
  ·exact .inl ⟨d,e1,h.mono pe⟩
  ·exact .inr (.inl ⟨z1,z2,a,es,e1,e2,(e [] a (by rw [List.append_nil]; exact e1)).trans e3,k,TAtD.monoP pe (fun i q a z=>e (i :: q) a z) g⟩)
  ·exact .inr (.inr (.inl ⟨z1,z2,a,es,e1,e2,(e [] a (by rw [List.append_nil]; exact e1)).trans e3,TAtK.monoP pe (fun i q a z=>e (i :: q) a z) g⟩))
  ·exact .inr (.inr (.inr ⟨c,a,dx,C,xs,e0,e1,e2,(e [] a (by rw [List.append_nil]; exact e1)).trans e3,k,TAtF.monoP pe (fun i q a z=>e (i :: q) a z) g⟩))
theorem TAtL.monoP (pe:Pers H H'):∀ {ds:List PyData} {p:List Nat} {i:Nat} {xs:List V},(∀ i q a,τ.lookup (p++i :: q) = some a→H' a = H a)→TAtL K H τ p i ds xs→TAtL K H' τ p i ds xs
 | [],_,_,_,_,h=>by simpa only [TAtL] using h
 | t :: ts,p,i,_,e,h=>by
  simp only [TAtL] at h ⊢
  obtain ⟨v,vs,e1,g1,g2⟩:=h
  exact ⟨v,vs,e1,TAt.monoP pe (fun q a z=>e i q a (by simpa using z)) g1,TAtL.monoP pe e g2⟩
theorem TAtD.monoP (pe:Pers H H'):∀ {ds:List (PyData×PyData)} {p:List Nat} {i:Nat} {xs:List (Int×V×V)},(∀ i q a,τ.lookup (p++i :: q) = some a→H' a = H a)→TAtD K H τ p i ds xs→TAtD K H' τ p i ds xs
 | [],_,_,_,_,h=>by simpa only [TAtD] using h
 | (k,t) :: r,p,i,_,e,h=>by
  simp only [TAtD] at h ⊢
  obtain ⟨u,v,vs,e1,g0,g1,g2⟩:=h
  exact ⟨u,v,vs,e1,g0.mono pe,TAt.monoP pe (fun q a z=>e i q a (by simpa using z)) g1,TAtD.monoP pe e g2⟩
theorem TAtK.monoP (pe:Pers H H'):∀ {ds:List (PyData×PyData)} {p:List Nat} {i:Nat} {xs:List (Key×V)},(∀ i q a,τ.lookup (p++i :: q) = some a→H' a = H a)→TAtK K H τ p i ds xs→TAtK K H' τ p i ds xs
 | [],_,_,_,_,h=>by simpa only [TAtK] using h
 | (k,t) :: r,p,i,_,e,h=>by
  simp only [TAtK] at h ⊢
  obtain ⟨u,v,vs,e1,g0,g1,g2⟩:=h
  exact ⟨u,v,vs,e1,g0,TAt.monoP pe (fun q a z=>e i q a (by simpa using z)) g1,TAtK.monoP pe e g2⟩
theorem TAtF.monoP (pe:Pers H H'):∀ {ds:List (PyData×PyData)} {p:List Nat} {i:Nat} {xs:List (Str×V)},(∀ i q a,τ.lookup (p++i :: q) = some a→H' a = H a)→TAtF K H τ p i ds xs→TAtF K H' τ p i ds xs
 | [],_,_,_,_,h=>by simpa only [TAtF] using h
 | (.str f,t) :: r,p,i,_,e,h=>by
  simp only [TAtF] at h ⊢
  obtain ⟨v,vs,e1,g1,g2⟩:=h
  exact ⟨v,vs,e1,TAt.monoP pe (fun q a z=>e i q a (by simpa using z)) g1,TAtF.monoP pe e g2⟩
 | (.none,d) :: r,_,_,_,e,h=>by simp only [TAtF] at h ⊢; exact TAtF.monoP pe e h
 | (.bool _,d) :: r,_,_,_,_,h=>by simp only [TAtF] at h
 | (.int _,d) :: r,_,_,_,_,h=>by simp only [TAtF] at h
 | (.list _,d) :: r,_,_,_,_,h=>by simp only [TAtF] at h
 | (.tuple _,d) :: r,_,_,_,_,h=>by simp only [TAtF] at h
 | (.dict _,d) :: r,_,_,_,_,h=>by simp only [TAtF] at h
end
end
def setT:PyData→List Nat→PyData→PyData
 | _,[],n=>n
 | .list ts,i :: p,n=>.list (ts.set i (setT (ts.getD i .none) p n))
 | .dict kvs,i :: p,n=>.dict (kvs.set i ((kvs.getD i (.none,.none)).1,setT (kvs.getD i (.none,.none)).2 p n))
 | t,_ :: _,_=>t
section
variable {K:Kd} {H H':Hp} {τ : List (List Nat×Addr)} {p q:List Nat} {P:List Nat}
theorem TAtL.setL (pe:Pers H H') {t':PyData}:∀ {ts:List PyData} {i j:Nat} {xs:List V},TAtL K H τ p i ts xs→(∀ v,xs[j]? = some v→TAt K H' τ (p++[i + j]) t' v)→(∀ l,l≠i + j→∀ q a,τ.lookup (p++l :: q) = some a→H' a = H a)→TAtL K H' τ p i (ts.set j t') xs
 | [],_,_,_,h,_,_=>by simpa only [List.set_nil,TAtL] using h
 | t :: ts,i,0,xs,h,c,e=>by
  simp only [TAtL] at h
  obtain ⟨v,vs,rfl,_,g2⟩:=h
  simp only [List.set_cons_zero,TAtL]
  refine ⟨v,vs,rfl,c v rfl,?_⟩
  clear c
  have:∀ {ts:List PyData} {i':Nat} {vs:List V},i < i'→TAtL K H τ p i' ts vs→TAtL K H' τ p i' ts vs:=by
   intro ts
   induction ts with
   | nil=>intro i' vs _ h; simpa only [TAtL] using h
   | cons t ts ih =>
    intro i' vs hl h
    simp only [TAtL] at h ⊢
    obtain ⟨v,vs,rfl,g1,g2⟩:=h
    exact ⟨v,vs,rfl,TAt.monoP pe (fun q a z=>e i' (by omega) q a (by simpa using z)) g1,ih (by omega) g2⟩
  exact this (Nat.lt_succ_self i) g2
 | t :: ts,i,j + 1,xs,h,c,e=>by
  simp only [TAtL] at h
  obtain ⟨v,vs,rfl,g1,g2⟩:=h
  simp only [List.set_cons_succ,TAtL]
  exact ⟨v,vs,rfl,TAt.monoP pe (fun q a z=>e i (by omega) q a (by simpa using z)) g1,TAtL.setL pe g2 (fun v' z=>by rw [show i + 1 + j = i + (j + 1) by omega]; exact c v' (by simpa using z)) fun l hl=>e l (by omega)⟩
theorem TAtK.rest (pe:Pers H H') {i:Nat} (e:∀ l,l≠i→∀ q a,τ.lookup (p++l :: q) = some a→H' a = H a):∀ {ts:List (PyData×PyData)} {i':Nat} {vs:List (Key×V)},i < i'→TAtK K H τ p i' ts vs→TAtK K H' τ p i' ts vs
 | [],_,_,_,h=>by simpa only [TAtK] using h
 | (k,t) :: ts,i',vs,hl,h=>by
  simp only [TAtK] at h ⊢
  obtain ⟨kk,v,vs,rfl,g0,g1,g2⟩:=h
  exact ⟨kk,v,vs,rfl,g0,TAt.monoP pe (fun q a z=>e i' (by omega) q a (by simpa using z)) g1,TAtK.rest pe e (by omega) g2⟩
theorem TAtK.setK (pe:Pers H H') {t':PyData}:∀ {ts:List (PyData×PyData)} {i j:Nat} {xs:List (Key×V)} {k0 t0:PyData},TAtK K H τ p i ts xs→ts[j]? = some (k0,t0)→(∀ v,(∃ kk,xs[j]? = some (kk,v))→TAt K H' τ (p++[i + j]) t' v)→(∀ l,l≠i + j→∀ q a,τ.lookup (p++l :: q) = some a→H' a = H a)→TAtK K H' τ p i (ts.set j (k0,t')) xs
 | [],_,_,_,_,_,_,z,_,_=>by simp at z
 | (k,t) :: ts,i,0,xs,k0,t0,h,z,c,e=>by
  simp at z
  obtain ⟨rfl,rfl⟩:=z
  simp only [TAtK] at h
  obtain ⟨kk,v,vs,rfl,g0,_,g2⟩:=h
  simp only [List.set_cons_zero,TAtK]
  exact ⟨kk,v,vs,rfl,g0,c v ⟨kk,rfl⟩,TAtK.rest pe e (Nat.lt_succ_self i) g2⟩
 | (k,t) :: ts,i,j + 1,xs,k0,t0,h,z,c,e=>by
  simp only [TAtK] at h
  obtain ⟨kk,v,vs,rfl,g0,g1,g2⟩:=h
  simp only [List.set_cons_succ,TAtK]
  exact ⟨kk,v,vs,rfl,g0,TAt.monoP pe (fun q a z=>e i (by omega) q a (by simpa using z)) g1,TAtK.setK pe g2 (by simpa using z) (fun v' ⟨kk',z⟩=>by rw [show i + 1 + j = i + (j + 1) by omega]; exact c v' ⟨kk',by simpa using z⟩) fun l hl=>e l (by omega)⟩
end
theorem oJ {τ : List (List Nat×Addr)} (nd:(τ.map (·.2)).Nodup) {p q:List Nat} {a:Addr} (h1 : τ.lookup p = some a) (h2 : τ.lookup q = some a):p = q:=by
 induction τ with
 | nil=>cases h1
 | cons x τ ih =>
  obtain ⟨r,b⟩:=x
  rw [List.map_cons,List.nodup_cons] at nd
  rw [List.lookup_cons] at h1 h2
  by_cases e1:p == r
  ·rw [e1] at h1
   cases h1
   by_cases e2:q == r
   ·rw [eq_of_beq e1,eq_of_beq e2]
   ·simp only [Bool.not_eq_true] at e2
    rw [e2] at h2
    exact (nd.1 (bv h2)).elim
  ·simp only [Bool.not_eq_true] at e1
   rw [e1] at h1
   by_cases e2:q == r
   ·rw [e2] at h2
    cases h2
    exact (nd.1 (bv h1)).elim
   ·simp only [Bool.not_eq_true] at e2
    rw [e2] at h2
    exact ih nd.2 h1 h2
def ir:PyData→PyData→Bool
 | .int a,.int b=>decide (a = b)
 | .str a,.str b=>decide (a = b)
 | _,_=>false
theorem iL (a b:Key):ir (keyD a) (keyD b) = decide (a = b):=by
 cases a <;> cases b <;> simp [keyD,ir]
def jb (k:PyData):Nat→List (PyData×PyData)→Option (Nat×PyData)
 | _,[]=>none
 | i,(k',t) :: r=>if ir k' k = true then some (i,t) else jb k (i + 1) r
def putD (k t:PyData):List (PyData×PyData)→List (PyData×PyData)
 | []=>[(k,t)]
 | (k',t') :: r=>if ir k' k = true then (k',t) :: r else (k',t') :: putD k t r
def lfD:PyData→PyData
 | .list ds=>.dict [(.none,.list ds)]
 | .dict ds=>.dict [(.none,.dict ds)]
 | d=>d
theorem kB {kvs:List (PyData×PyData)} (h:isKd kvs = true):fzOf kvs = none∧excC kvs = none:=by
 cases kvs with
 | nil=>exact ⟨rfl,rfl⟩
 | cons x r =>
  obtain ⟨k,d⟩:=x
  cases k with
  | int _=>exact ⟨rfl,rfl⟩
  | str _=>exact ⟨rfl,rfl⟩
  | none=>simp [isKd] at h
  | bool _=>simp [isKd] at h
  | list _=>simp [isKd] at h
  | tuple _=>simp [isKd] at h
  | dict _=>simp [isKd] at h
section
variable {K:Kd} {H:Hp} {τ : List (List Nat×Addr)} {p:List Nat}
theorem TAtK.get':∀ {ts:List (PyData×PyData)} {i j:Nat} {xs:List (Key×V)} {k t:PyData},TAtK K H τ p i ts xs→ts[j]? = some (k,t)→∃ kk v,xs[j]? = some (kk,v)∧k = keyD kk∧TAt K H τ (p++[i + j]) t v
 | [],_,_,_,_,_,_,e=>by simp at e
 | (k,t) :: ts,i,0,xs,k',t',h,e=>by
  simp only [TAtK] at h
  obtain ⟨u,v,vs,rfl,g0,g1,_⟩:=h
  simp at e; obtain ⟨rfl,rfl⟩:=e
  exact ⟨u,v,rfl,g0.1,g1⟩
 | (k,t) :: ts,i,j + 1,xs,k',t',h,e=>by
  simp only [TAtK] at h
  obtain ⟨u,v,vs,rfl,_,_,g2⟩:=h
  obtain ⟨kk,v',e1,e0,e2⟩:=TAtK.get' (j:=j) g2 (by simpa using e)
  exact ⟨kk,v',by simpa using e1,e0,by rw [show i + (j + 1) = i + 1 + j by omega]; exact e2⟩
theorem TAtK.kd:∀ {ts:List (PyData×PyData)} {i:Nat} {xs:List (Key×V)},TAtK K H τ p i ts xs→isKd ts = true
 | [],_,_,_=>rfl
 | (k,t) :: ts,i,xs,h=>by
  simp only [TAtK] at h
  obtain ⟨u,v,vs,rfl,g0,_,g2⟩:=h
  have:=g2.kd
  unfold isKd at this ⊢
  rw [List.all_cons,this,g0.1]
  cases u <;> rfl
theorem TAtK.len:∀ {ts:List (PyData×PyData)} {i:Nat} {xs:List (Key×V)},TAtK K H τ p i ts xs→ts.length = xs.length
 | [],_,_,h=>by simp only [TAtK] at h; subst h; rfl
 | (k,t) :: ts,i,xs,h=>by
  simp only [TAtK] at h
  obtain ⟨u,v,vs,rfl,g0,_,g2⟩:=h
  simp [g2.len]
theorem TAtK.look {kk:Key}:∀ {ts:List (PyData×PyData)} {i j:Nat} {xs:List (Key×V)} {t:PyData},TAtK K H τ p i ts xs→jb (keyD kk) i ts = some (j,t)→∃ v,valV xs kk = some v∧TAt K H τ (p++[j]) t v
 | [],_,_,_,_,_,e=>by cases e
 | (k,t) :: ts,i,j,xs,t',h,e=>by
  simp only [TAtK] at h
  obtain ⟨u,v,vs,rfl,g0,g1,g2⟩:=h
  obtain ⟨rfl,_⟩:=g0
  simp only [jb,iL] at e
  by_cases c:u = kk
  ·rw [if_pos (decide_eq_true c)] at e
   cases e
   exact ⟨v,cI (p:=(u,v)) c,g1⟩
  ·rw [if_neg (by simpa using c)] at e
   obtain ⟨v',e1,e2⟩:=TAtK.look g2 e
   exact ⟨v',by rw [cF (p:=(u,v)) c]; exact e1,e2⟩
theorem lX {u kk:Key} {v w:V} {vs:List (Key×V)} (c:u≠kk):putK ((u,w) :: vs) kk v = (u,w) :: putK vs kk v:=by
 unfold putK
 rw [List.any_cons,decide_eq_false (show ¬ ((u,w):Key×V).1 = kk from c),Bool.false_or]
 by_cases e:(vs.any fun kv=>decide (kv.1 = kk)) = true
 ·rw [if_pos e,if_pos e,List.map_cons,if_neg (show ¬ ((u,w):Key×V).1 = kk from c)]
 ·rw [if_neg e,if_neg e]; rfl
theorem lG {kk:Key} {v w:V} {vs:List (Key×V)} (h:∀ x∈vs,x.1≠kk):putK ((kk,w) :: vs) kk v = (kk,v) :: vs:=by
 unfold putK
 rw [List.any_cons,decide_eq_true (show ((kk,w):Key×V).1 = kk from rfl),Bool.true_or,if_pos rfl,List.map_cons,if_pos rfl]
 congr 1
 exact (List.map_congr_left (g:=id) fun x hx=>if_neg (h x hx)).trans (List.map_id _)
theorem vV {kk:Key} {v:V} {vs:List (Key×V)} {x:Key×V} (h:x∈putK vs kk v):x.1 = kk∨∃ y∈vs,y.1 = x.1:=by
 unfold putK at h
 split at h
 ·obtain ⟨y,h1,h2⟩:=List.mem_map.mp h
  subst h2
  refine .inr ⟨y,h1,?_⟩
  split <;> rfl
 ·obtain h | h:=List.mem_append.mp h
  ·exact .inr ⟨x,h,rfl⟩
  ·cases List.mem_singleton.mp h
   exact .inl rfl
theorem TAtK.put {kk:Key} {t':PyData} {v':V} (c:∀ j,TAt K H τ (p++[j]) t' v'):∀ {ts:List (PyData×PyData)} {i:Nat} {xs:List (Key×V)},TAtK K H τ p i ts xs→TAtK K H τ p i (putD (keyD kk) t' ts) (putK xs kk v')
 | [],i,xs,h=>by
  simp only [TAtK] at h
  subst h
  simp only [putD,TAtK]
  exact ⟨kk,v',[],rfl,⟨rfl,fun x hx=>by cases hx⟩,c i,rfl⟩
 | (k,t) :: ts,i,xs,h=>by
  simp only [TAtK] at h
  obtain ⟨u,v,vs,rfl,g0,g1,g2⟩:=h
  obtain ⟨rfl,g0⟩:=g0
  simp only [putD,iL]
  by_cases e:u = kk
  ·subst e
   rw [if_pos (decide_eq_true rfl),lG g0]
   simp only [TAtK]
   exact ⟨u,v',vs,rfl,⟨rfl,g0⟩,c i,g2⟩
  ·rw [if_neg (by simpa using e),lX e]
   simp only [TAtK]
   refine ⟨u,v,_,rfl,⟨rfl,fun x hx=>?_⟩,g1,g2.put c⟩
   rcases vV hx with z | ⟨y,hy,z⟩
   ·rw [z]; exact fun w=>e w.symm
   ·rw [←z]; exact g0 y hy
theorem kZ {d:PyData} {v:V} (h:Den K H d v):TAt K H τ p (lfD d) v:=by
 cases d with
 | list ds=>simp only [lfD,TAt]; exact .inl ⟨_,rfl,h⟩
 | dict ds=>simp only [lfD,TAt]; exact .inl ⟨_,rfl,h⟩
 | none=>simpa only [lfD,TAt] using h
 | bool _=>simpa only [lfD,TAt] using h
 | int _=>simpa only [lfD,TAt] using h
 | str _=>simpa only [lfD,TAt] using h
 | tuple _=>simpa only [lfD,TAt] using h
theorem TAt.kd {kvs:List (PyData×PyData)} {v:V} (h:TAt K H τ p (.dict kvs) v) (e:isKd kvs = true):∃ a es,τ.lookup p = some a∧v = .ref a∧H a = some (.dK es)∧TAtK K H τ p 0 kvs es:=by
 obtain ⟨n1,n2⟩:=kB e
 simp only [TAt] at h
 rcases h with ⟨d,e1,_⟩ | ⟨_,_,b,es,e1,e2,e3,kk,g⟩ | ⟨_,_,b,es,e1,e2,e3,g⟩ | ⟨c,b,dx,C,xs,e0,e1,e2,e3,kk,g⟩
 ·rw [n1] at e1; cases e1
 ·rw [kk.1] at e; cases e
 ·exact ⟨b,es,e1,e2,e3,g⟩
 ·rw [n2] at e0; cases e0
theorem TAt.node {t:PyData} {v:V} (h:TAt K H τ p t v) (e:fx t = none):∃ a,τ.lookup p = some a∧v = .ref a:=by
 cases t with
 | list ts =>
  simp only [TAt] at h
  obtain ⟨a,xs,e1,e2,_⟩:=h
  exact ⟨a,e1,e2⟩
 | dict kvs =>
  have e':fzOf kvs = none:=e
  simp only [TAt] at h
  rcases h with ⟨d,e1,_⟩ | ⟨_,_,b,es,e1,e2,e3,kk,g⟩ | ⟨_,_,b,es,e1,e2,e3,g⟩ | ⟨c,b,dx,C,xs,e0,e1,e2,e3,kk,g⟩
  ·rw [e'] at e1; cases e1
  ·exact ⟨b,e1,e2⟩
  ·exact ⟨b,e1,e2⟩
  ·exact ⟨b,e1,e2⟩
 | none=>cases e
 | bool _=>cases e
 | int _=>cases e
 | str _=>cases e
 | tuple _=>cases e
end
def okW:PyData→List Nat→Bool
 | _,[]=>true
 | .list ts,i :: q=>okW (ts.getD i .none) q
 | .dict kvs,i :: q=>(isKd kvs || (excC kvs).isSome) && okW (kvs.getD i (.none,.none)).2 q
 | _,_ :: _=>false
theorem vA {kvs:List (PyData×PyData)} {i:Nat} {k t t':PyData} (h:isKd kvs = true) (e:kvs[i]? = some (k,t)):isKd (kvs.set i (k,t')) = true:=by
 unfold isKd at h ⊢
 rw [List.all_eq_true] at h ⊢
 intro x hx
 rcases List.mem_or_eq_of_mem_set hx with z | z
 ·exact h x z
 ·subst z; exact h (k,t) (List.mem_of_getElem? e)
theorem TAtF.restF {K:Kd} {H H':Hp} {τ : List (List Nat×Addr)} {p:List Nat} (pe:Pers H H') {i:Nat} (e:∀ l,l≠i→∀ q a,τ.lookup (p++l :: q) = some a→H' a = H a):∀ {ts:List (PyData×PyData)} {i':Nat} {vs:List (Str×V)},i < i'→TAtF K H τ p i' ts vs→TAtF K H' τ p i' ts vs
 | [],_,_,_,h=>by simpa only [TAtF] using h
 | (.str f,t) :: ts,i',vs,hl,h=>by
  simp only [TAtF] at h ⊢
  obtain ⟨v,vs,rfl,g1,g2⟩:=h
  exact ⟨v,vs,rfl,TAt.monoP pe (fun q a z=>e i' (by omega) q a (by simpa using z)) g1,TAtF.restF pe e (by omega) g2⟩
 | (.none,d) :: r,_,_,hl,h=>by simp only [TAtF] at h ⊢; exact TAtF.restF pe e (by omega) h
 | (.bool _,d) :: r,_,_,_,h=>by simp only [TAtF] at h
 | (.int _,d) :: r,_,_,_,h=>by simp only [TAtF] at h
 | (.list _,d) :: r,_,_,_,h=>by simp only [TAtF] at h
 | (.tuple _,d) :: r,_,_,_,h=>by simp only [TAtF] at h
 | (.dict _,d) :: r,_,_,_,h=>by simp only [TAtF] at h
theorem TAtF.setF {K:Kd} {H H':Hp} {τ : List (List Nat×Addr)} {p:List Nat} (pe:Pers H H') {t' t0:PyData} {f0:Str}:∀ {ts:List (PyData×PyData)} {i j:Nat} {xs:List (Str×V)},TAtF K H τ p i ts xs→ts[j]? = some (.str f0,t0)→(∀ v,TAt K H τ (p++[i + j]) t0 v→TAt K H' τ (p++[i + j]) t' v)→(∀ l,l≠i + j→∀ q a,τ.lookup (p++l :: q) = some a→H' a = H a)→TAtF K H' τ p i (ts.set j (.str f0,t')) xs
 | [],_,_,_,_,z,_,_=>by simp at z
 | (k,t) :: ts,i,0,xs,h,z,c,e=>by
  simp at z
  obtain ⟨rfl,rfl⟩:=z
  simp only [TAtF] at h
  obtain ⟨v,vs,rfl,g1,g2⟩:=h
  simp only [List.set_cons_zero,TAtF]
  exact ⟨v,vs,rfl,c v g1,TAtF.restF pe e (Nat.lt_succ_self i) g2⟩
 | (.str f,t) :: ts,i,j + 1,xs,h,z,c,e=>by
  simp only [TAtF] at h
  obtain ⟨v,vs,rfl,g1,g2⟩:=h
  simp only [List.set_cons_succ,TAtF]
  exact ⟨v,vs,rfl,TAt.monoP pe (fun q a z=>e i (by omega) q a (by simpa using z)) g1,TAtF.setF pe g2 (by simpa using z) (fun v' zv=>by rw [show i + 1 + j = i + (j + 1) by omega] at zv ⊢; exact c v' zv) fun l hl=>e l (by omega)⟩
 | (.none,d) :: ts,i,j + 1,xs,h,z,c,e=>by
  simp only [TAtF] at h
  simp only [List.set_cons_succ,TAtF]
  exact TAtF.setF pe h (by simpa using z) (fun v' zv=>by rw [show i + 1 + j = i + (j + 1) by omega] at zv ⊢; exact c v' zv) fun l hl=>e l (by omega)
 | (.bool _,d) :: r,_,_ + 1,_,h,_,_,_=>by simp only [TAtF] at h
 | (.int _,d) :: r,_,_ + 1,_,h,_,_,_=>by simp only [TAtF] at h
 | (.list _,d) :: r,_,_ + 1,_,h,_,_,_=>by simp only [TAtF] at h
 | (.tuple _,d) :: r,_,_ + 1,_,h,_,_,_=>by simp only [TAtF] at h
 | (.dict _,d) :: r,_,_ + 1,_,h,_,_,_=>by simp only [TAtF] at h
theorem TAt.ins {K:Kd} {H:Hp} {τ : List (List Nat×Addr)} {p:List Nat} {kvs:List (PyData×PyData)} {v:V} {c:Str} (h:TAt K H τ p (.dict kvs) v) (e:excC kvs = some c):∃ a dx C xs,τ.lookup p = some a∧v = .ref a∧H a = some (.ins C dx xs)∧ClsN K c C∧TAtF K H τ p 0 kvs xs:=by
 have hf:fzOf kvs = none:=by
  unfold excC at e
  split at e
  ·unfold fzOf
   split
   ·rename_i z; simp at z
   ·rename_i z; simp at z
   ·rfl
  ·cases e
 simp only [TAt] at h
 rcases h with ⟨d,e1,_⟩ | ⟨_,z2,_⟩ | ⟨_,z2,_⟩ | ⟨c',a,dx,C,xs,e0,e1,e2,e3,k,g⟩
 ·rw [hf] at e1; cases e1
 ·rw [e] at z2; cases z2
 ·rw [e] at z2; cases z2
 ·rw [e] at e0; cases e0
  exact ⟨a,dx,C,xs,e1,e2,e3,k,g⟩
theorem vE {kvs:List (PyData×PyData)} {i:Nat} {x:PyData×PyData} {c:Str} {k t:PyData} (h:excC kvs = some c) (e:kvs[i]? = some (k,t)) (kn:k≠.none):excC (kvs.set i x) = some c:=by
 cases kvs with
 | nil=>cases h
 | cons y r =>
  cases i with
  | zero =>
   simp at e
   subst e
   unfold excC at h
   split at h
   ·rename_i z; simp at z; exact (kn z.1.1).elim
   ·cases h
  | succ i =>
   rw [List.set_cons_succ]
   unfold excC at h ⊢
   split at h
   ·rename_i z
    simp at z
    obtain ⟨rfl,rfl⟩:=z
    exact h
   ·cases h
theorem TAt.set {K:Kd} {H:Hp} {τ : List (List Nat×Addr)} (nd:(τ.map (·.2)).Nodup) {a:Addr} {o:HO} {n:PyData} (pe:Pers H (upd H a o)):∀ {q p:List Nat} {t t0:PyData} {v:V},TAt K H τ p t v→getT t q = some t0→okW t q = true→τ.lookup (p++q) = some a→TAt K (upd H a o) τ (p++q) n (.ref a)→(∀ u,TAt K H τ (p++q) t0 u→u = .ref a)→TAt K (upd H a o) τ p (setT t q n) v
 | [],p,t,t0,v,h,e,_,_,hn,hu=>by
  cases e
  rw [List.append_nil] at hn hu
  rw [hu v h]
  unfold setT
  exact hn
 | i :: q,p,t,t0,v,h,e,ok,ea,hn,hu=>by
  have other:∀ (r:List Nat) (b:Addr),τ.lookup r = some b→r≠p++i :: q→(upd H a o) b = H b:=fun r b z ne=>av fun eb=>by
   subst eb
   exact ne (oJ nd z ea)
  have ea' : τ.lookup ((p++[i])++q) = some a:=by simpa using ea
  have hn':TAt K (upd H a o) τ ((p++[i])++q) n (.ref a):=by simpa using hn
  have hu':∀ u,TAt K H τ ((p++[i])++q) t0 u→u = .ref a:=fun u z=>hu u (by simpa using z)
  simp only [getT] at e
  cases z:chD t i with
  | none=>rw [z] at e; cases e
  | some t1 =>
   rw [z] at e
   have e':getT t1 q = some t0:=e
   have sib:∀ l,l≠0 + i→∀ r b,τ.lookup (p++l :: r) = some b→(upd H a o) b = H b:=fun l hl r b zz=>other _ _ zz fun y=>by
    have:=List.append_cancel_left y
    injection this with h1 _
    omega
   have self:∀ b,τ.lookup p = some b→(upd H a o) b = H b:=fun b zz=>other _ _ zz fun y=>by
    have:=congrArg List.length y
    simp at this
   cases t with
   | list ts =>
    have zi:ts[i]? = some t1:=z
    have hg:ts.getD i .none = t1:=by rw [List.getD_eq_getElem?_getD,zi]; rfl
    simp only [TAt] at h
    obtain ⟨b,xs,e1,e2,e3,g⟩:=h
    simp only [setT,hg,TAt]
    refine ⟨b,xs,e1,e2,(self b e1).trans e3,TAtL.setL pe g (fun v1 zv=>?_) sib⟩
    obtain ⟨v2,ev2,g2⟩:=g.get (j:=i) zi
    rw [zv] at ev2; cases ev2
    rw [Nat.zero_add] at g2 ⊢
    exact TAt.set nd pe g2 e' (by simp only [okW,hg] at ok; exact ok) ea' hn' hu'
   | dict kvs =>
    simp only [chD] at z
    cases zi:kvs[i]? with
    | none=>rw [zi] at z; cases z
    | some kt =>
     obtain ⟨k,t2⟩:=kt
     rw [zi] at z
     have kn:k≠.none:=fun w=>by subst w; cases z
     have e2:t2 = t1:=by split at z <;> simp_all
     subst e2
     have hg:kvs.getD i (.none,.none) = (k,t2):=by rw [List.getD_eq_getElem?_getD,zi]; rfl
     simp only [okW,hg,Bool.and_eq_true,Bool.or_eq_true] at ok
     rcases ok.1 with ok1 | ok1
     ·obtain ⟨b,es,e1,e2,e3,g⟩:=h.kd ok1
      have kd':isKd (kvs.set i (k,setT t2 q n)) = true:=vA ok1 zi
      obtain ⟨n1,n2⟩:=kB kd'
      simp only [setT,hg,TAt]
      refine .inr (.inr (.inl ⟨n1,n2,b,es,e1,e2,(self b e1).trans e3,TAtK.setK pe g zi (fun v1 ⟨kk,zv⟩=>?_) sib⟩))
      obtain ⟨kk2,v2,ev2,_,g2⟩:=g.get' (j:=i) zi
      rw [zv] at ev2; cases ev2
      rw [Nat.zero_add] at g2 ⊢
      exact TAt.set nd pe g2 e' ok.2 ea' hn' hu'
     ·obtain ⟨c,ec⟩:=Option.isSome_iff_exists.mp ok1
      obtain ⟨b,dx,C,xs,e1,e2,e3,kc,g⟩:=h.ins ec
      obtain ⟨f0,rfl⟩:=g.key (List.mem_of_getElem? zi) kn
      have ec':excC (kvs.set i (.str f0,setT t2 q n)) = some c:=vE ec zi kn
      simp only [setT,hg,TAt]
      refine .inr (.inr (.inr ⟨c,b,dx,C,xs,ec',e1,e2,(self b e1).trans e3,kc,TAtF.setF pe g zi (fun v1 g2=>?_) sib⟩))
      rw [Nat.zero_add] at g2 ⊢
      exact TAt.set nd pe g2 e' ok.2 ea' hn' hu'
   | none=>cases z
   | bool _=>cases z
   | int _=>cases z
   | str _=>cases z
   | tuple _=>cases z
def onAt (P:Nat→List Nat→Prop):R→Prop
 | .at k p=>P k p
 | _=>False
def mX (P:PyData→Prop):R→Prop
 | .imm (.int i)=>P (.int i)
 | .imm (.str x)=>P (.str x)
 | _=>False
def fj (k:Nat) (p:List Nat) (j:Nat) (t:PyData):R:=match fx t with
 | some d=>.imm d
 | none=>.at k (p++[j])
section
variable {K:Kx} {α : Al} {Hb H:Hp} {r:R} {v:V} {m:MSt} {σ : St}
theorem uq {P:Nat→List Nat→Prop} (rr:RelR K α Hb H r v) (h:onAt P r):∃ k p τ a,r = .at k p∧α[k]? = some (.T τ)∧τ.lookup p = some a∧v = .ref a∧P k p:=by
 unfold onAt at h
 split at h
 ·obtain ⟨τ,a,e1,e2,e3⟩:=rr
  exact ⟨_,_,τ,a,rfl,e1,e2,e3,h⟩
 ·exact h.elim
theorem yv {P:PyData→Prop} (rr:RelR K α Hb H r v) (h:mX P r):∃ kk:Key,r = .imm (keyD kk)∧v = kV kk∧P (keyD kk):=by
 unfold mX at h
 split at h
 ·rename_i i
  exact ⟨.inl i,rfl,au (show Den K H (.int i) v from rr),h⟩
 ·rename_i x
  exact ⟨.inr x,rfl,aW (show Den K H (.str x) v from rr),h⟩
 ·exact h.elim
theorem Rel.dict (Rl:Rel K α m σ H) {k:Nat} {p:List Nat} {τ : List (List Nat×Addr)} {a:Addr} {t:PyData} {kvs:List (PyData×PyData)} (e1 : α[k]? = some (.T τ)) (e2 : τ.lookup p = some a) (e3:m.os[k]? = some [t]) (e4:getT t p = some (.dict kvs)) (e5:isKd kvs = true) :
  ∃ es,H a = some (.dK es)∧TAtK K H τ p 0 kvs es:=by
 obtain ⟨⟨t1,v0,z,g,_⟩,_⟩:=Rl.own k (.T τ) _ e1 e3
 cases z
 obtain ⟨v',g'⟩:=g.get e4
 rw [List.nil_append] at g'
 obtain ⟨a',es,ea,_,ed,gk⟩:=g'.kd e5
 rw [e2] at ea; cases ea
 exact ⟨es,ed,gk⟩
theorem fQ (Rl:Rel K α m σ H) {k:Nat} {p:List Nat} {j:Nat} {τ : List (List Nat×Addr)} {t:PyData} (e1 : α[k]? = some (.T τ)) (h:TAt K H τ (p++[j]) t v):RelR K α Hb H (fj k p j t) v:=by
 unfold fj
 cases e:fx t with
 | some d=>exact kl h e
 | none =>
  obtain ⟨a,e2,e3⟩:=h.node e
  exact ⟨τ,a,e1,e2,e3⟩
end
section
variable {X:Cx} {o i e:Expr} {wo wi we:WE} {pos pos':Pos}
def dGot (m:MSt) (k:Nat) (p:List Nat) (y:PyData) (K:R→Prop):Prop:=∃ t kvs j t',m.os[k]? = some [t]∧getT t p = some (.dict kvs)∧isKd kvs = true∧jb y 0 kvs = some (j,t')∧K (fj k p j t')
def zX (m:MSt) (k:Nat) (p:List Nat) (y d:PyData) (P:PyData→Prop):Prop:=∃ t kvs,m.os[k]? = some [t]∧getT t p = some (.dict kvs)∧isKd kvs = true∧okW t p = true∧kvs.length < sizeLine∧P (setT t p (.dict (putD y (lfD d) kvs)))
def wDIx (wo wi:WE):WE:=fun m K=>wo m fun ro m1=>wi m1 fun ri m2=>onAt (fun k p=>mX (fun y=>dGot m2 k p y fun r=>K r m2) ri) ro
theorem GG (hu:X.A.units + 64 < cLine) (ho:ME X o wo) (hi:ME X i wi) (hs:NoSl i:=by intro _ _; rfl):ME X (.Subscript o i pos) (wDIx wo wi):=(B9 (by omega) ho hi hs).wk fun σ H Q ⟨α,m,Kc,Rl,hw,fin⟩=>by
 refine ⟨α,m,_,Rl,hw,fun ro m1 v1 H1 k1 n1 Rl1 rr1 F1=>⟨α,m1,_,Rl1,k1,fun ri m2 v2 H2 k2 n2 Rl2 rr2 F2=>?_⟩⟩
 obtain ⟨k,p,τ,a,rfl,e1,e2,rfl,k2⟩:=uq rr1 k2
 obtain ⟨kk,rfl,rfl,t,kvs,j,t',e3,e4,e5,e6,k2⟩:=yv rr2 k2
 obtain ⟨es,ed,gk⟩:=Rl2.dict e1 e2 e3 e4 e5
 obtain ⟨v,ev,hv⟩:=gk.look e6
 refine ⟨a,v,rfl,by rw [←ev]; exact DGet.k ed,fin _ m2 v H2 k2 (n2.trans n1) Rl2 ?_ (F1.trans F2)⟩
 exact fQ Rl2 e1 hv
def AU (we wo wi:WE):WS:=fun D m=>we m fun rv m1=>cf (fun d=>wo m1 fun ro m2=>wi m2 fun ri m3=>onAt (fun k p=>mX (fun y=>zX m3 k p y d fun t=>D.nx { m3 with os:=m3.os.set k [t] }) ri) ro) rv
theorem Ce (hu:X.A.units + 64 < cLine) (he:ME X e we) (ho:ME X o wo) (hi:ME X i wi) (hs:swapsWith e (some (.Subscript o i pos')) pos.line X.env = pure false:=by rfl):MS X (.Assign [.Subscript o i pos'] e pos) (AU we wo wi):=(zw (by omega) ho hi he hs).wk fun D σ H ⟨α,m,De,Rl,hw,k⟩=>by
 refine ⟨α,m,_,Rl,hw,fun r m1 v H1 q n1 Rl1 rr F1=>?_⟩
 obtain ⟨d,er,hd,q⟩:=cG rr q
 refine ⟨α,m1,_,Rl1,q,fun ro m2 ov H2 q2 n2 Rl2 rr2 F2=>⟨α,m2,_,Rl2,q2,fun ri m3 iv H3 q3 n3 Rl3 rr3 F3=>?_⟩⟩
 obtain ⟨kk,p,τ,a,rfl,e1,e2,rfl,q3⟩:=uq rr2 q3
 obtain ⟨y,rfl,rfl,t,kvs,e3,e4,e5,e6,e7,q3⟩:=yv rr3 q3
 obtain ⟨es,ed,gk⟩:=Rl3.dict e1 e2 e3 e4 e5
 have hd3:Den X.kx H3 d v:=(hd.mono (Rl1.pers F2)).mono (Rl2.pers F3)
 obtain ⟨⟨t1,v0,z,g,a0,ea0,ev0⟩,mu⟩:=Rl3.own kk (.T τ) _ e1 e3
 cases z
 have pe:Pers H3 (upd H3 a (.dK (putK es y v))):=aZ (.inr ⟨_,ed,rfl⟩)
 have nd:(τ.map (·.2)).Nodup:=((dI α).mp Rl3.nd).1 (.T τ) (List.mem_of_getElem? e1)
 have gk':TAtK X.kx (upd H3 a (.dK (putK es y v))) τ p 0 kvs es:=TAtK.monoP pe (fun i q b zb=>av fun eb=>by
  subst eb
  have:=congrArg List.length (oJ nd zb e2)
  simp at this) gk
 have new:TAt X.kx (upd H3 a (.dK (putK es y v))) τ p (.dict (putD (keyD y) (lfD d) kvs)) (.ref a):=by
  have gp:=gk'.put (kk:=y) (t':=lfD d) (v':=v) fun j=>kZ (hd3.mono pe)
  obtain ⟨z1,z2⟩:=kB gp.kd
  simp only [TAt]
  exact .inr (.inr (.inl ⟨z1,z2,a,_,e2,rfl,aC,gp⟩))
 have all:TAt X.kx (upd H3 a (.dK (putK es y v))) τ [] (setT t p (.dict (putD (keyD y) (lfD d) kvs))) v0:=TAt.set nd pe g e4 e6 (by rw [List.nil_append]; exact e2) (by rw [List.nil_append]; exact new) fun u hu'=>by
  rw [List.nil_append] at hu'
  obtain ⟨a',es',ea',eu,_⟩:=hu'.kd e5
  rw [e2] at ea'; cases ea'
  exact eu
 obtain ⟨R4,F4⟩:=Rl3.setW e1 pe (ds':=[setT t p (.dict (putD (keyD y) (lfD d) kvs))]) (fun b hb=>av fun eb=>hb (eb▸bv e2)) ⟨⟨_,v0,rfl,all,a0,ea0,ev0⟩,fun b hb=>by
  by_cases eb:b = a
  ·subst eb; exact ⟨_,aC,rfl⟩
  ·rw [av eb]; exact mu b hb⟩
 exact ⟨a,_,rfl,DPut.k ed (by rw [←gk.len]; exact e7),k.nx α _ σ _ q3 (n3.trans (n2.trans n1)) R4 (.of R4 (((F1.trans F2).trans F3).trans F4))⟩
def iu:List (WE×WE)→MSt→(List (R×R)→MSt→Prop)→Prop
 | [],m,K=>K [] m
 | (wk,wv) :: r,m,K=>wk m fun rk m1=>wv m1 fun rv m2=>iu r m2 fun ps m3=>K ((rk,rv) :: ps) m3
inductive RelPs (K:Kd) (α : Al) (Hb H:Hp):List (R×R)→List (V×V)→Prop where
 | nil:RelPs K α Hb H [] []
 | cons {r1 r2:R} {rs:List (R×R)} {v1 v2:V} {vs:List (V×V)}:RelR K α Hb H r1 v1→RelR K α Hb H r2 v2→RelPs K α Hb H rs vs→RelPs K α Hb H ((r1,r2) :: rs) ((v1,v2) :: vs)
theorem RelPs.base {K:Kx} {α : Al} {m:MSt} {σ : St} {H0 H H':Hp} (Rl:Rel K α m σ H) (F:Frm α H0 H):∀ {rs:List (R×R)} {vs:List (V×V)},RelPs K α H H' rs vs→RelPs K α H0 H' rs vs
 | _,_,.nil=>.nil
 | _,_,.cons h1 h2 t=>.cons (h1.base Rl F) (h2.base Rl F) (t.base Rl F)
theorem ot {K:Kx}:∀ {ws:List (WE×WE)} {α : Al} {m:MSt} {σ : St} {H:Hp} {Kc:List (R×R)→MSt→Prop} {Q:List (V×V)→Hp→Prop},Rel K α m σ H→iu ws m Kc →
  (∀ ps m' vs H',Kc ps m'→m'.np = m.np→Rel K α m' σ H'→RelPs K α H H' ps vs→Frm α H H'→Q vs H')→o8 (ws.map fun w=>(tM K w.1,tM K w.2)) σ H Q
 | [],α,m,σ,H,Kc,Q,Rl,h,fin=>fin _ m _ H h rfl Rl .nil (Frm.refl _ _)
 | (wk,wv) :: r,α,m,σ,H,Kc,Q,Rl,h,fin =>
  ⟨α,m,_,Rl,h,fun r1 m1 v1 H1 k1 n1 Rl1 rr1 F1=>⟨α,m1,_,Rl1,k1,fun r2 m2 v2 H2 k2 n2 Rl2 rr2 F2 =>
   ot Rl2 k2 fun ps m3 vs H3 k3 n3 Rl3 rs F3=>fin _ m3 _ H3 k3 (n3.trans (n2.trans n1)) Rl3
    (.cons ((rr1.keep Rl Rl1 F2).keep Rl Rl2 F3) ((rr2.keep Rl1 Rl2 F3).base Rl1 F1) (rs.base Rl2 (F1.trans F2))) ((F1.trans F2).trans F3)⟩⟩
def fB:List (R×R)→Option (List (PyData×PyData))
 | []=>some []
 | (.imm (.int i),.imm d) :: r=>(fB r).map ((.int i,d) :: ·)
 | (.imm (.str x),.imm d) :: r=>(fB r).map ((.str x,d) :: ·)
 | _ :: _=>none
def lfKV (kvs:List (PyData×PyData)):List (PyData×PyData):=kvs.map fun kv=>(kv.1,lfD kv.2)
def lh:List (PyData×PyData)→Bool
 | []=>true
 | (k,_) :: r=>r.all (fun kv=>!ir kv.1 k) && lh r
theorem rm {K:Kx} {α : Al} {H0 H:Hp} {τ : List (List Nat×Addr)} {p:List Nat} {ps:List (R×R)} {vs:List (V×V)} (h:RelPs K α H0 H ps vs):∀ {kvs:List (PyData×PyData)} {i:Nat},fB ps = some kvs→lh kvs = true→∃ es:List (Key×V),vs = es.map (fun kv=>(kV kv.1,kv.2))∧TAtK K H τ p i (lfKV kvs) es∧∀ kk,(kvs.all fun kv=>!ir kv.1 (keyD kk)) = true→∀ x∈es,x.1≠kk:=by
 induction h with
 | nil=>intro kvs i e _; cases e; exact ⟨[],rfl,by simp [lfKV,TAtK],fun _ _ _ h=>by cases h⟩
 | @cons r1 r2 rs v1 v2 vs h1 h2 t ih =>
  intro kvs i e nk
  have go:∀ (kk:Key) (d:PyData),r1 = .imm (keyD kk)→r2 = .imm d→(fB rs).map ((keyD kk,d) :: ·) = some kvs→∃ es:List (Key×V),(v1,v2) :: vs = es.map (fun kv=>(kV kv.1,kv.2))∧TAtK K H τ p i (lfKV kvs) es∧∀ kk,(kvs.all fun kv=>!ir kv.1 (keyD kk)) = true→∀ x∈es,x.1≠kk:=by
   clear e
   intro kk d z1 z2 e
   subst z1 z2
   cases q:fB rs with
   | none=>rw [q] at e; cases e
   | some kvs' =>
    rw [q] at e; cases e
    simp only [lh,Bool.and_eq_true] at nk
    obtain ⟨es,ee,g,un⟩:=ih (i:=i + 1) q nk.2
    have e1:v1 = kV kk:=by
     cases kk with
     | inl i=>exact au (show Den K H (.int i) v1 from h1)
     | inr x=>exact aW (show Den K H (.str x) v1 from h1)
    subst e1
    refine ⟨(kk,v2) :: es,by rw [List.map_cons,←ee],?_,fun k' hk x hx=>?_⟩
    ·simp only [lfKV,List.map_cons,TAtK]
     exact ⟨kk,v2,es,rfl,⟨rfl,un kk nk.1⟩,kZ h2,g⟩
    ·rw [List.all_cons,Bool.and_eq_true,iL] at hk
     rcases List.mem_cons.mp hx with z | z
     ·subst z; simpa using hk.1
     ·exact un k' hk.2 x z
  unfold fB at e
  split at e
  ·rename_i z; cases z
  ·rename_i i' d r z; cases z; exact go (.inl i') d rfl rfl e
  ·rename_i x d r z; cases z; exact go (.inr x) d rfl rfl e
  ·cases e
theorem k7:∀ {more kvs:List (Key×V)},(more.map (·.1)).Nodup→(∀ x∈more,valV kvs x.1 = none)→gz kvs more = kvs++more
 | [],kvs,_,_=>(List.append_nil _).symm
 | (k,v) :: more,kvs,nd,h=>by
  show gz (putK kvs k v) more = _
  rw [List.map_cons,List.nodup_cons] at nd
  rw [xW v (h (k,v) List.mem_cons_self),k7 nd.2 fun x hx=>?_,List.append_assoc]
  ·rfl
  ·rw [lr _ _ _ _ (h (k,v) List.mem_cons_self),if_neg]
   ·exact h x (List.mem_cons_of_mem _ hx)
   ·exact fun z=>nd.1 (z▸List.mem_map_of_mem hx)
theorem TAtK.nodup {K:Kd} {H:Hp} {τ : List (List Nat×Addr)} {p:List Nat}:∀ {ts:List (PyData×PyData)} {i:Nat} {xs:List (Key×V)},TAtK K H τ p i ts xs→(xs.map (·.1)).Nodup
 | [],_,_,h=>by simp only [TAtK] at h; subst h; exact List.nodup_nil
 | (k,t) :: ts,i,xs,h=>by
  simp only [TAtK] at h
  obtain ⟨u,v,vs,rfl,g0,_,g2⟩:=h
  rw [List.map_cons]
  rw [List.nodup_cons]
  refine ⟨fun z=>?_,g2.nodup⟩
  obtain ⟨x,h1,h2⟩:=List.mem_map.mp z
  exact g0.2 x h1 h2
def nv (P:List (PyData×PyData)→Prop):Option (List (PyData×PyData))→Prop
 | some kvs=>lh kvs = true∧kvs.length≤15∧P (lfKV kvs)
 | none=>False
def zL (ws:List (WE×WE)):WE:=fun m K=>iu ws m fun ps m'=>nv (fun kvs=>K (.newT (.dict kvs)) m') (fB ps)
def MPs (X:Cx) (pos:Pos) (keys:List (Option Expr)) (values:List Expr) (ws:List (WE×WE)):Prop:=PPs X pos keys values (ws.map fun w=>(tM X.kx w.1,tM X.kx w.2))
theorem Cb:MPs X pos [] [] []:=zQ
theorem vq {k v:Expr} {ks:List (Option Expr)} {vs:List Expr} {wk wv:WE} {ws:List (WE×WE)} (hk:ME X k wk) (hv:ME X v wv) (hr:MPs X pos ks vs ws):MPs X pos (some k :: ks) (v :: vs) ((wk,wv) :: ws):=xq hk hv hr
theorem BQ {keys:List (Option Expr)} {values:List Expr} {ws:List (WE×WE)} (h:MPs X pos keys values ws) (hall:keys.all (·.isSome) = true:=by rfl) (hl:keys.length = values.length:=by rfl) (h0:keys≠[]:=by exact fun z=>by cases z) (h15:keys.length≤15:=by decide):ME X (.Dict keys values pos) (zL ws) :=
 (zq h hall hl h0 h15).wk fun σ H Q ⟨α,m,Kc,Rl,hw,fin⟩=>by
 intro p hp
 refine ot (Rl.lay hp) hw fun ps m1 vs H1 k1 n1 Rl1 rp F1=>?_
 cases e:fB ps with
 | none=>rw [e] at k1; exact k1.elim
 | some kvs =>
  rw [e] at k1
  obtain ⟨nk,hl,k1⟩:=k1
  have hpα : p∉ads α:=Rl.out hp
  have e1:H1 p = some (.dK []):=F1 p _ aC hpα
  obtain ⟨es,ee,g,_⟩:=rm (τ:=[([],p)]) (p:=[]) (i:=0) rp e nk
  refine ⟨e1,es,ee,by rw [←g.len]; simpa [lfKV] using hl,?_⟩
  have em:gz [] es = es:=by
   have:=k7 (more:=es) (kvs:=[]) g.nodup fun x _=>rfl
   rwa [List.nil_append] at this
  rw [em]
  have pe:Pers H1 (upd H1 p (.dK es)):=aZ (.inr ⟨_,e1,rfl⟩)
  have fr:Frm α H (upd H1 p (.dK es)):=fun b ob eb nb=>by
   have ne:b≠p:=aU eb hp
   rw [av ne]
   exact F1 b ob (by rw [av ne]; exact eb) nb
  have old:Ext X.kx.eb.np α H α (upd H1 p (.dK es)):=⟨rfl,fr,fun _ h=>.inl h,fun b hb=>by
   have hbp:b≠p:=fun e=>hpα (e▸hb)
   rw [av hbp]
   obtain ⟨o',e',_⟩:=Rl1.mem hb
   exact ⟨o',e'⟩⟩
  refine fin _ m1 _ _ k1 n1 (Rl1.at' pe (fun b hb=>av fun e=>hpα (e▸hb)) (Rl.ebx.trans old)) ⟨[([],p)],p,rfl,rfl,by simp,fun b hb=>by simp at hb; subst hb; exact hp,⟨⟨_,.ref p,rfl,?_,p,rfl,rfl⟩,fun b hb=>by simp at hb; subst hb; exact ⟨_,aC,rfl⟩⟩⟩ fr
  obtain ⟨z1,z2⟩:=kB g.kd
  simp only [TAt]
  refine .inr (.inr (.inl ⟨z1,z2,p,es,rfl,rfl,aC,TAtK.monoP pe (fun i q b zb=>?_) g⟩))
  simp [List.lookup] at zb
end
section
variable {m:MSt} {Q:R→MSt→Prop} {wo wi we:WE} {D:fM}
theorem KM (h:wo m fun ro m1=>wi m1 fun ri m2=>onAt (fun k p=>mX (fun y=>dGot m2 k p y fun r=>Q r m2) ri) ro):wDIx wo wi m Q:=h
theorem D6 {P:Nat→List Nat→Prop} {k:Nat} {p:List Nat} (h:P k p):onAt P (.at k p):=h
theorem vw {P:PyData→Prop} {x:Str} (h:P (.str x)):mX P (.imm (.str x)):=h
theorem IQ {k:Nat} {p:List Nat} {y t t' d:PyData} {kvs:List (PyData×PyData)} {j:Nat} {K:R→Prop} (e1:m.os[k]? = some [t]) (e2:getT t p = some (.dict kvs)) (e3:isKd kvs = true) (e4:jb y 0 kvs = some (j,t')) (e5:fx t' = some d) (h:K (.imm d)) :
  dGot m k p y K:=⟨t,kvs,j,t',e1,e2,e3,e4,by unfold fj; rw [e5]; exact h⟩
theorem FJ (h:we m fun rv m1=>cf (fun d=>wo m1 fun ro m2=>wi m2 fun ri m3=>onAt (fun k p=>mX (fun y=>zX m3 k p y d fun t=>D.nx { m3 with os:=m3.os.set k [t] }) ri) ro) rv):AU we wo wi D m:=h
theorem o7 {y t t':PyData}:∀ {kvs:List (PyData×PyData)} {i j:Nat},jb y i kvs = some (i + j,t')→∃ k',ir k' y = true∧putD y t kvs = kvs.set j (k',t)
 | [],_,_,e=>by cases e
 | (k',t0) :: r,i,j,e=>by
  simp only [jb] at e
  by_cases c:ir k' y = true
  ·rw [if_pos c] at e
   have:i = i + j:=by simpa using congrArg (Option.map (·.1)) e
   obtain rfl:j = 0:=by omega
   exact ⟨k',c,by simp only [putD,if_pos c,List.set_cons_zero]⟩
  ·rw [if_neg c] at e
   cases j with
   | zero =>
    exfalso
    have ge:∀ {kvs:List (PyData×PyData)} {i j:Nat} {t'':PyData},jb y i kvs = some (j,t'')→i≤j:=by
     intro kvs
     induction kvs with
     | nil=>intro i j t'' e; cases e
     | cons x r ih =>
      intro i j t'' e
      obtain ⟨k1,t1⟩:=x
      simp only [jb] at e
      split at e
      ·cases e; exact Nat.le_refl _
      ·have:=ih e; omega
    have:=ge e
    omega
   | succ j =>
    obtain ⟨k2,h1,h2⟩:=o7 (t:=t) (i:=i + 1) (j:=j) (by rw [e]; congr 2; omega)
    exact ⟨k2,h1,by simp only [putD,if_neg c,List.set_cons_succ,h2]⟩
theorem wz {a b:PyData} (h:ir a b = true):a = b:=by
 unfold ir at h
 split at h
 ·rw [of_decide_eq_true h]
 ·rw [of_decide_eq_true h]
 ·cases h
theorem zO {k:Nat} {p:List Nat} {y d t t':PyData} {kvs:List (PyData×PyData)} {j:Nat} {P:PyData→Prop} (e1:m.os[k]? = some [t]) (e2:getT t p = some (.dict kvs)) (e3:isKd kvs = true) (e4:okW t p = true) (e5:kvs.length < sizeLine) (e6:jb y 0 kvs = some (j,t')) (h:P (setT t p (.dict (kvs.set j (y,lfD d))))) :
  zX m k p y d P:=by
 obtain ⟨k',h1,h2⟩:=o7 (t:=lfD d) (i:=0) (j:=j) (by rw [e6,Nat.zero_add])
 rw [wz h1] at h2
 exact ⟨t,kvs,e1,e2,e3,e4,e5,by rw [h2]; exact h⟩
theorem Ip {ws:List (WE×WE)} (h:iu ws m fun ps m'=>nv (fun kvs=>Q (.newT (.dict kvs)) m') (fB ps)):zL ws m Q:=h
theorem Dv {K:List (R×R)→MSt→Prop} (h:K [] m):iu [] m K:=h
theorem z6 {wk wv:WE} {r:List (WE×WE)} {K:List (R×R)→MSt→Prop} (h:wk m fun rk m1=>wv m1 fun rv m2=>iu r m2 fun ps m3=>K ((rk,rv) :: ps) m3):iu ((wk,wv) :: r) m K:=h
theorem ve {P:List (PyData×PyData)→Prop} {o:Option (List (PyData×PyData))} {kvs kvs2:List (PyData×PyData)} (e:o = some kvs) (e1:lh kvs = true) (e2:kvs.length≤15) (e3:lfKV kvs = kvs2) (h:P kvs2):nv P o:=by subst e; subst e3; exact ⟨e1,e2,h⟩
theorem kQ {n:Nat} {t:PyData} {P:MSt→Prop} (h:P { vs:=m.vs.set n (some (.at m.os.length [])),os:=m.os++[[t]],np:=m.np }):kr n P m (.newT t):=.inl h
end
section
variable {X:Cx} {o i e:Expr} {wo wi we:WE} {pos pos':Pos}
theorem dt (hu:X.A.units + 64 < cLine) (ho:EE X o wo) (hi:EE X i wi) (hs:NoSl i:=by intro _ _; rfl):EE X (.Subscript o i pos) (wDIx wo wi):=⟨GG hu ho.h hi.h hs⟩
theorem kz (hu:X.A.units + 64 < cLine) (he:EE X e we) (ho:EE X o wo) (hi:EE X i wi) (hs:swapsWith e (some (.Subscript o i pos')) pos.line X.env = pure false:=by rfl):ES X (.Assign [.Subscript o i pos'] e pos) (AU we wo wi):=⟨Ce hu he.h ho.h hi.h hs⟩
structure EPs (X:Cx) (pos:Pos) (keys:List (Option Expr)) (values:List Expr) (ws:List (WE×WE)):Prop where
 h:MPs X pos keys values ws
theorem xh:EPs X pos [] [] []:=⟨Cb⟩
theorem i3 {k v:Expr} {ks:List (Option Expr)} {vs:List Expr} {wk wv:WE} {ws:List (WE×WE)} (hk:EE X k wk) (hv:EE X v wv) (hr:EPs X pos ks vs ws):EPs X pos (some k :: ks) (v :: vs) ((wk,wv) :: ws):=⟨vq hk.h hv.h hr.h⟩
theorem xr {keys:List (Option Expr)} {values:List Expr} {ws:List (WE×WE)} (h:EPs X pos keys values ws) (hall:keys.all (·.isSome) = true:=by rfl) (hl:keys.length = values.length:=by rfl) (h0:keys≠[]:=by exact fun z=>by cases z) (h15:keys.length≤15:=by decide):EE X (.Dict keys values pos) (zL ws):=⟨BQ h.h hall hl h0 h15⟩
end
end L2
namespace K
open PySem L2 M7
def AW (ns:List Int) (p q:Int):PyData:=.dict [(.str "script",.dict [(.none,.list (ns.map .int))]),(.str "turn",.int p),(.str "left",.int q)]
def TapeK (c:Nat) (t:PyData):Prop:=∃ (ns:List Int) (p q:Int),t = AW ns p q∧ns.length≤63∧0≤p∧p≤c∧0≤q
theorem TapeK.mono {c c':Nat} {t:PyData} (h:TapeK c t) (hc:c≤c'):TapeK c' t:=by
 obtain ⟨ns,p,q,e,h1,h2,h3,h4⟩:=h
 exact ⟨ns,p,q,e,h1,h2,by omega,h4⟩
def rD:SpM:=fun as K=>∃ ns:List Int,as = [.imm (.list (ns.map .int))]∧ns.length≤63∧∀ t,TapeK 0 t→K (.newT t) []
def i6:SpM:=fun as K=>∃ (t:PyData) (m:Int) (c:Nat),as = [.tr t,.imm (.int m)]∧TapeK c t∧c < 1000000000∧0 < m∧m < 1099511627776∧∀ (r:Int) (t':PyData),0≤r→r < m→TapeK (c + 1) t'→K (.imm (.int r)) [[t']]
def nY:SpM:=fun as K=>∃ rs:List Nat,as = [.imm (.list (rs.map fun (r:Nat)=>.int (r:Int)))]∧rs.length≤4∧(∀ r∈rs,r≤6)∧K (.new ((M3.allR rs).map lnD)) []
def uv:SpM:=fun as K=>∃ (t:PyData) (c:Nat),as = [.tr t,.imm (.int 400)]∧TapeK c t∧c < 800000000∧∀ (h:Hall) (t':PyData),h.Ok→TapeK (c + 20) t'→K (.imm h.d) [[t']]
def SvK (ps:List (Nat×Nat)):Prop:=1≤ps.length∧ps.length≤4∧∀ p∈ps,1≤p.1∧p.1≤3∧1≤p.2∧p.2≤4
def bo (ps:List (Nat×Nat)):List Nat:=ps.map fun p=>p.2
def iy (ps:List (Nat×Nat)):List (Nat×Nat):=ps.map fun p=>(p.1,max 1 (p.2 - 1))
theorem v6 {ps:List (Nat×Nat)} (h:SvK ps):SvK (iy ps):=by
 refine ⟨by simpa [iy] using h.1,by simpa [iy] using h.2.1,fun p hp=>?_⟩
 obtain ⟨q,hq,rfl⟩:=List.mem_map.mp hp
 have:=h.2.2 q hq
 exact ⟨this.1,this.2.1,by show 1≤max 1 (q.2 - 1); omega,by show max 1 (q.2 - 1)≤4; omega⟩
theorem su:∀ {rs:List Nat},(∀ r∈rs,r≤1)→M7.cnt rs≤2 ^ rs.length
 | [],_=>Nat.le_refl _
 | r :: rs,h=>by
  have h1:=h r List.mem_cons_self
  have h2:=su (rs:=rs) fun x hx=>h x (List.mem_cons_of_mem _ hx)
  show (r + 1) * M7.cnt rs≤2 ^ (rs.length + 1)
  rw [Nat.pow_succ,Nat.mul_comm]
  exact Nat.mul_le_mul h2 (by omega)
theorem lq:∀ {ps:List (Nat×Nat)},(∀ p∈ps,1≤p.2)→(bo (iy ps)).sum≤(bo ps).sum∧((∃ p∈ps,2≤p.2)→(bo (iy ps)).sum < (bo ps).sum)
 | [],_=>⟨Nat.le_refl _,fun ⟨p,hp,_⟩=>by cases hp⟩
 | p :: ps,h=>by
  have ih:=lq (ps:=ps) fun x hx=>h x (List.mem_cons_of_mem _ hx)
  have hp:=h p List.mem_cons_self
  have e1:(bo (iy (p :: ps))).sum = max 1 (p.2 - 1) + (bo (iy ps)).sum:=by simp [bo,iy]
  have e2:(bo (p :: ps)).sum = p.2 + (bo ps).sum:=by simp [bo]
  rw [e1,e2]
  refine ⟨by have:=ih.1; omega,fun ⟨q,hq,h2⟩=>?_⟩
  obtain rfl | hq:=List.mem_cons.mp hq
  ·have:=ih.1; omega
  ·have:=ih.2 ⟨q,hq,h2⟩; omega
theorem zT {ps:List (Nat×Nat)} (h:SvK ps) (hb : 400 < (M3.allR (bo ps)).length):∃ p∈ps,2≤p.2:=Classical.byContradiction fun hn=>by
 have h1:∀ r∈bo ps,r≤1:=fun r hr=>by
  obtain ⟨p,hp,rfl⟩:=List.mem_map.mp hr
  exact Nat.le_of_not_lt fun z=>hn ⟨p,hp,z⟩
 rw [M7.allR_cnt] at hb
 have h2:=su h1
 have h3:(bo ps).length≤4:=by simpa [bo] using h.2.1
 have h4 : 2 ^ (bo ps).length≤2 ^ 4:=Nat.pow_le_pow_right (by decide) h3
 omega
theorem SvK.six {ps:List (Nat×Nat)} (h:SvK ps):(bo ps).length≤4∧∀ r∈bo ps,r≤6:=by
 refine ⟨by simpa [bo] using h.2.1,fun r hr=>?_⟩
 obtain ⟨p,hp,rfl⟩:=List.mem_map.mp hr
 have:=(h.2.2 p hp).2.2.2
 omega
theorem SvK.rep {ps:List (Nat×Nat)} (h:SvK ps) {p:Nat×Nat} (hp:p∈ps) {n:Nat} (h1 : 1≤n) (h4:n≤4):SvK (List.replicate n p) :=
 ⟨by rw [List.length_replicate]; exact h1,by rw [List.length_replicate]; exact h4,fun q hq=>by rw [List.eq_of_mem_replicate hq]; exact h.2.2 p hp⟩
theorem vd {α : Type} (n:Nat) (x : α):(List.replicate n [x]).flatten = List.replicate n x:=by
 induction n with
 | zero=>rfl
 | succ n ih=>rw [List.replicate_succ,List.flatten_cons,ih,List.replicate_succ]; rfl
def zo (p:Nat×Nat):PyData:=.int (p.2:Int)
def topD (p:Nat×Nat):PyData:=.int (p.1:Int)
def Ix (p:Nat×Nat):PyData:=prD (p.1,max 1 (p.2 - 1))
theorem lQ (ps:List (Nat×Nat)):ps.map zo = (bo ps).map fun (r:Nat)=>.int (r:Int):=by rw [bo,List.map_map]; rfl
theorem sW (ps:List (Nat×Nat)):ps.map Ix = (iy ps).map prD:=by rw [iy,List.map_map]; rfl
def srvK (wh:Nat) (p:Nat×Nat):Srv:=⟨p.1 / p.1.gcd wh,wh / p.1.gcd wh,p.2⟩
theorem tF {p wh:Nat} (h1 : 1≤p) (h2:p < 1000000) (h3 : 1≤wh) (h4:wh < 1000000) : 1≤p / p.gcd wh∧p / p.gcd wh < 1000000∧1≤wh / p.gcd wh∧wh / p.gcd wh < 1000000:=by
 have g1 : 0 < p.gcd wh:=Nat.gcd_pos_of_pos_right _ h3
 have g2:p.gcd wh≤wh:=Nat.gcd_le_right _ h3
 have g3:p.gcd wh≤p:=Nat.gcd_le_left _ h1
 have d1:=Nat.div_le_self p (p.gcd wh)
 have d2:=Nat.div_le_self wh (p.gcd wh)
 exact ⟨Nat.div_pos g3 g1,by omega,Nat.div_pos g2 g1,by omega⟩
def nw (ps:List (Nat×Nat)):List Nat:=ps.map fun p=>p.1
theorem xU (ps:List (Nat×Nat)):ps.map topD = natD (nw ps):=by rw [nw,natD,List.map_map]; rfl
theorem om:∀ {ps:List (Nat×Nat)},(∀ p∈ps,p.1≤3)→(nw ps).sum≤3 * ps.length
 | [],_=>Nat.le_refl _
 | p :: ps,h=>by
  have ih:=om (ps:=ps) fun x hx=>h x (List.mem_cons_of_mem _ hx)
  have:=h p List.mem_cons_self
  simp only [nw,List.map_cons,List.sum_cons,List.length_cons] at ih ⊢
  omega
theorem sumK:∀ l:List Nat,(l.map fun (x:Nat)=>(x:Int)).sum = ((l.sum:Nat):Int)
 | []=>rfl
 | x :: l=>by rw [List.map_cons,List.sum_cons,List.sum_cons,sumK l,Int.natCast_add]
theorem vf (l:List Nat):dk (natD l) = some (l.map fun (k:Nat)=>(k:Int)):=by unfold natD; rw [show (l.map fun (k:Nat)=>PyData.int (k:Int)) = (l.map fun (k:Nat)=>(k:Int)).map .int by rw [List.map_map]; rfl,de]
end K
namespace L2
open PySem PySem.Spec PyProof.Rows
structure ConM (K:PySem.W.Frag) (mg:Str→Option Value) (x:Str) (d:PyData):Prop where
 ex:∃ (v:V) (u:Value),mg x = some u∧RelV v u∧∀ (w:World) (H:Hp),Den ⟨K,w⟩ H d v
structure ConK (K:PySem.W.Frag) (x:Str) (d:PyData):Prop where
 ex:∃ (v:V) (u:Value),PySem.W.nsIn K mainGlobals x = some (some u)∧RelV v u∧∀ (w:World) (H:Hp),Den ⟨K,w⟩ H d v
theorem ConK.m {K:PySem.W.Frag} {mg:Str→Option Value} {h:Heap} {x:Str} {d:PyData} (D:ConK K x d) (X:K.In h) (G:h.Ns mainGlobals mg):ConM K mg x d:=by
 obtain ⟨v,u,a,r,q⟩:=D.ex
 exact ⟨v,u,PySem.W.mg_of X G a,r,q⟩
theorem ConK.str {K:PySem.W.Frag} {x z:Str} {t:Tok} (a:PySem.W.nsIn K mainGlobals x = some (some (.str z t))):ConK K x (.str z):=⟨.str z,_,a,⟨t,rfl⟩,fun _ H=>by simp only [Den]⟩
theorem d6 {K:Kd} {H:Hp}:∀ zs:List Str,DenAll K H (zs.map .str) (zs.map V.str)
 | []=>by simp only [List.map_nil,DenAll]
 | z :: zs=>by
  simp only [List.map_cons,DenAll]
  exact ⟨.str z,_,rfl,by simp only [Den],d6 zs⟩
section
variable {X:Cx} {a b o e:Expr} {es:List Expr} {wo we:WE} {ws:WA} {apos cpos pos p:Pos} {tg:Expr}
theorem Du {x:Str} {d:PyData} (C:ConM X.K X.mg x d) (hg:Gl X x) (hd:(x == ("__debug__" : Str)) = false:=by decide):ME X (.Name x pos) (wC d):=by
 obtain ⟨v,u,hm,r,q⟩:=C.ex
 exact Au (zN hg hm r hd) fun α m σ H Kc Q Rl hw fin=>fin _ m v H hw rfl Rl (q _ _) (Frm.refl _ _)
theorem nq {x:Str} {d:PyData} (C:ConM X.K X.mg x d) (hg:Gl X x) (hd:(x == ("__debug__" : Str)) = false:=by decide):EE X (.Name x pos) (wC d):=⟨Du C hg hd⟩
def m7 (x:Str):List PyData:=x.cps.toList.map fun c=>PyData.str ⟨#[c]⟩
def Its (x:Str):It:=⟨fun i _=>i < x.cps.size,fun i H v H'=>H' = H∧∃ c,x.cps[i]? = some c∧v = .str ⟨#[c]⟩,fun i _=>x.cps.size≤i⟩
theorem xZ {P:Program} {w:World} {K:PySem.W.Frag} (it:Addr) (x:Str) (t:Tok):Turn P w K tg (Its x) [it] it (fun i h=>h.IsStrIter it "str_ascii_iterator" x t i) where
 mem:=by simp
 obj:=fun i h st c hb=>by
  have e:c = it:=by simpa using hb
  subst e
  obtain ⟨ob,e,_,d⟩:=st
  exact ⟨ob,e,fun v z=>by rw [d] at z; cases z⟩
 keep:=fun i h h' st k=>let ⟨ob,ho,r⟩:=st; ⟨ob,k it (by simp) ob ho,r⟩
 item:=by
  intro X hP hw hK hc i pins s σ H E I hf st hg
  subst hP hw hK
  obtain ⟨f0,f1,f2,f3,f4,f5⟩:=hf it (by simp)
  have hi:i < x.cps.size:=hg
  refine wpAny_pyNext_ascii_item st (c:=x.cps[i]) (by simp [hi]) fun h' st' sb=>?_
  have I1:Inv X pins σ H { s with heap:=h',toks:=s.toks + 1 }:=I.turned (fun b ob hb e=>(sb.2 b hb).trans e) f0 f1 f3 f4 f5
  obtain ⟨ob,e,cl,d⟩:=id st'
  exact ⟨_,rfl,v9 (s:={ s with heap:=h',toks:=s.toks + 1 }) e cl d (by decide) ⟨.str ⟨#[x.cps[i]]⟩,H,I1,⟨_,rfl⟩,⟨rfl,_,by simp [hi],rfl⟩,st',fun b hb=>(hf b hb).1⟩⟩
 done:=by
  intro X hP hw hK hc i pins s σ H E I hf st hg
  subst hP hw hK
  obtain ⟨f0,f1,f2,f3,f4,f5⟩:=hf it (by simp)
  have hi:x.cps.size≤i:=hg
  exact wpAny_pyNext_ascii_end (I.ok.hd hc) st (by simp [hi]) fun h' eb=>⟨rfl,I.turned (t':=s.toks) (fun b ob hb e=>eb b ob hb e) f0 f1 f3 f4 f5⟩
 self:=fun _ _ _ _ _ st h=>wpAny_pyIter_striter_ascii st h
def iStr (tl:TE):TI:=fun σ H Rq=>tl σ H fun v H1=>∃ x,v = .str x∧x.cps.all (· < 128) = true∧Rq (Its x) H1
theorem DM {l:Expr} {tl:TE} (hl:PE X l tl):PI X tg l (iStr tl):=by
 intro pins s σ H R I h
 refine thn (hl pins s σ H _ I h) fun v s1 ⟨xv,H1,I1,r1,q1⟩=>?_
 obtain ⟨x,e,ha,q⟩:=q1
 subst e
 obtain ⟨t,rfl⟩:=r1
 refine wpAny_pyIter_ascii ha ?_
 refine ⟨s1.heap.objs.size,[s1.heap.objs.size],_,_,H1,rfl,I1.kept (t':=s1.toks) fun b ob e=>Heap.get?_push_of_some _ e,xZ _ x t,⟨_,Heap.get?_push_size _ rfl,rfl,rfl⟩,fun b hb=>?_,q⟩
 have e:b = s1.heap.objs.size:=by simpa using hb
 subst e
 exact I1.fpOk (Nat.le_refl _) (I1.hok.fresh (Nat.le_refl _))
theorem fC (x:Str):(m7 x).length = x.cps.size:=by simp [m7]
theorem AI {K:Kd} {x:Str}:Wks K (Its x) (m7 x) fun _=>True where
 stop:=fun H _=>by rw [fC]; exact Nat.le_refl _
 go:=fun i H hi _=>by rw [fC] at hi; exact hi
 yld:=fun i H v H' hi _ y=>by
  rw [fC] at hi
  obtain ⟨e,c,hc,rfl⟩:=y
  subst e
  refine ⟨fun _ _ z=>z,.str ⟨#[c]⟩,?_,by simp only [Den]⟩
  unfold m7
  rw [List.getElem?_map,Array.getElem?_toList,hc]; rfl
def Bp (we:WE):WI:=fun m K=>we m fun r m'=>cf (fun d=>∃ x,d = .str x∧x.cps.all (· < 128) = true∧K ⟨m7 x,none⟩ m') r
theorem aK {K:Kd} {H:Hp} {x:Str} {v:V} (h:Den K H (.str x) v):v = .str x:=by simpa only [Den] using h
theorem IW (he:ME X e we):MI X tg e (Bp we):=(DM (tg:=tg) he).wk fun σ H Rq ⟨α,m,Kc,Rl,hw,fin⟩=>by
 refine ⟨α,m,_,Rl,hw,fun r m' v H' k n Rl' rr F=>?_⟩
 cases r with
 | new _=>exact k.elim
 | obj j=>exact k.elim
 | «at» _ _=>exact k.elim
 | newT _=>exact k.elim
 | imm d =>
  obtain ⟨x,rfl,ha,k⟩:=k
  have e:=aK (show Den X.kx H' (.str x) v from rr)
  subst e
  exact ⟨x,rfl,ha,fin _ m' _ H' k n Rl' F ⟨fun _=>True,AI,trivial,fun _ _ _ _=>trivial⟩⟩
theorem yt {m:MSt} {K:Src→MSt→Prop} (h:we m fun r m'=>cf (fun d=>∃ x,d = .str x∧x.cps.all (· < 128) = true∧K ⟨m7 x,none⟩ m') r):Bp we m K:=h
theorem tX (he:EE X e we):EI X tg e (Bp we):=⟨IW he.h⟩
def wMS (ob:WM) (wo:WE) (ws:WA):WE:=fun m K=>wo m fun r m1=>(∃ x,r = .imm (.str x))∧ws m1 fun rs m2=>ob r rs m2 K
theorem KH {name:Str} {id:String} {ob:WM} (slot:Slot "str" name id) (hty:typeOf (.builtin id) = pure (.type "method_descriptor")) (hm:MtM X id (mM X.kx ob)) (ho:ME X o wo) (ha:MA X (e :: es) ws)
  (hbase:attributeBase o name X.env (eval o X.env) = eval o X.env:=by rfl)
  (hfew:((backTo cpos (starEach (e :: es) X.env)).all (fun x=>!x.1) && (backToKw cpos (keywordEach [] X.env)).all (fun x=>x.1.isSome)
   && decide ((e :: es).length + ([]:List Keyword).length + (if ([]:List Keyword).isEmpty then 0 else 1) < 30)) = true:=by rfl)
  (hline:(apos.endLine == cpos.line) = true:=by rfl) (hs:starEach (e :: es) X.env = (false,eval e X.env) :: starEach es X.env:=by first | exact aD rfl | rfl) (hplain:(backTo cpos (starEach es X.env)).any (·.1) = false:=by rfl) :
  ME X (.Call (.Attribute o name apos) (e :: es) [] cpos) (wMS ob wo ws):=(AQ PySem.F.plainAttrs_str slot hty hm ho ha hbase hfew hline hs hplain).wk fun σ H Q ⟨α,m,Kc,Rl,hw,fin⟩=>by
 refine ⟨α,m,_,Rl,hw,fun r m1 v H1 k n1 Rl1 rr F1=>?_⟩
 obtain ⟨⟨x,rfl⟩,k⟩:=k
 have ev:=aK (show Den X.kx H1 (.str x) v from rr)
 subst ev
 refine ⟨rfl,α,m1,_,Rl1,k,fun rs m2 vs H2 k2 n2 Rl2 rr2 F2=>?_⟩
 exact ⟨α,m2,σ,H,H1,.imm (.str x),rs,Kc,Rl2,rr.keep Rl Rl1 F2,rr2,k2,fun r m' v H' k n Rl' rr' F=>fin r m' v H' k (n.trans (n2.trans n1)) Rl' (rr'.base Rl2 (F1.trans F2)) ((F1.trans F2).trans F)⟩
theorem iR {name:Str} {id:String} {ob:WM} (slot:Slot "str" name id) (hty:typeOf (.builtin id) = pure (.type "method_descriptor")) (hm:MtM X id (mM X.kx ob)) (ho:EE X o wo) (ha:EA X (e :: es) ws)
  (hbase:attributeBase o name X.env (eval o X.env) = eval o X.env:=by rfl)
  (hfew:((backTo cpos (starEach (e :: es) X.env)).all (fun x=>!x.1) && (backToKw cpos (keywordEach [] X.env)).all (fun x=>x.1.isSome)
   && decide ((e :: es).length + ([]:List Keyword).length + (if ([]:List Keyword).isEmpty then 0 else 1) < 30)) = true:=by rfl)
  (hline:(apos.endLine == cpos.line) = true:=by rfl) (hs:starEach (e :: es) X.env = (false,eval e X.env) :: starEach es X.env:=by first | exact aD rfl | rfl) (hplain:(backTo cpos (starEach es X.env)).any (·.1) = false:=by rfl) :
  EE X (.Call (.Attribute o name apos) (e :: es) [] cpos) (wMS ob wo ws):=⟨KH slot hty hm ho.h ha.h hbase hfew hline hs hplain⟩
theorem x_ms {m:MSt} {K:R→MSt→Prop} {ob:WM} (h:wo m fun r m1=>(∃ x,r = .imm (.str x))∧ws m1 fun rs m2=>ob r rs m2 K):wMS ob wo ws m K:=h
theorem x_ss {x:Str} {P:Prop} (h:P):(∃ y,R.imm (.str x) = .imm (.str y))∧P:=⟨⟨x,rfl⟩,h⟩
end
end L2
namespace L2
open PySem PySem.Spec PyProof.Rows Builtin.Str
theorem gA:∀ {ts:List Str} {its:List Value},Vals (ts.map V.str) its→∃ l:List (Str×Tok),its = strValues l∧l.map (·.1) = ts
 | [],_,.nil=>⟨[],rfl,rfl⟩
 | x :: ts,_,.cons r rs=>by
  obtain ⟨t,rfl⟩:=r
  obtain ⟨l,rfl,rfl⟩:=gA rs
  exact ⟨(x,t) :: l,rfl,rfl⟩
theorem gI:∀ l:List (Str×Tok),Vals ((l.map (·.1)).map V.str) (strValues l)
 | []=>.nil
 | (x,t) :: l=>.cons ⟨t,rfl⟩ (gI l)
section
variable {X:Cx}
def GW:WM:=fun r rs m K=>on1 (fun r2=>∃ sep ds ts,r = .imm (.str sep)∧lsOf m r2 = some ds∧ds = ts.map .str∧JoinOk sep ts = true∧K (.imm (.str (Txt.join sep ts))) m) rs
theorem ia:MtM X "str.join" (mM X.kx GW):=by
 rintro pins s σ' H x xs v us Q I rx rv ⟨α,m,σ,H0,H1,r,rs,Kc,Rl,h1,h2,ho,fin⟩
 obtain ⟨r2,v2,rfl,rfl,h2,sep,ds,ts,rfl,e1,e2,hj,ho⟩:=bO h2 ho
 have ev:=aK (show Den X.kx H (.str sep) x from h1)
 subst ev
 obtain ⟨t,rfl⟩:=rx
 obtain ⟨a,ys,rfl,f,g⟩:=h2.list Rl e1
 rw [e2] at g
 have ey:=di g
 subst ey
 obtain ⟨u,rfl,ru⟩:=rv.one
 cases ru
 obtain ⟨its,rv1,pl,_⟩:=I.list f
 obtain ⟨l,rfl,hl⟩:=gA rv1
 exact SC.join pl.isList hl hj fun t' k=>⟨.str _,H,I.tok _,⟨_,rfl⟩,fin _ _ _ H ho rfl Rl (dj (by simp only [Den])) (Frm.refl _ _)⟩
theorem oO {m:MSt} {r2:R} {sep:Str} {ts:List Str} {K:R→MSt→Prop} (e:lsOf m r2 = some (ts.map .str)) (hj:JoinOk sep ts = true) (h:K (.imm (.str (Txt.join sep ts))) m):GW (.imm (.str sep)) [r2] m K:=⟨sep,_,ts,rfl,e,rfl,hj,h⟩
def yC:WM:=fun r rs m K=>on1 (cf fun d=>∃ x y,r = .imm (.str x)∧d = .str y∧(y.length == 0) = false∧x.length≤1000000∧K (.new ((Txt.split x y).map .str)) m) rs
theorem rL:MtM X "str.split" (mM X.kx yC):=by
 rintro pins s σ' H x xs v us Q I rx rv ⟨α,m,σ,H0,H1,r,rs,Kc,Rl,h1,h2,ho,fin⟩
 obtain ⟨r2,v2,rfl,rfl,h2,ho⟩:=bO h2 ho
 obtain ⟨d,rfl,hd,x',y,rfl,rfl,hy,hx,ho⟩:=cG h2 ho
 have ev:=aK (show Den X.kx H (.str x') x from h1)
 subst ev
 have ev:=aK (show Den X.kx H (.str y) v2 from hd)
 subst ev
 obtain ⟨t,rfl⟩:=rx
 obtain ⟨w,rfl,u,rfl⟩:=rv.one
 have hsz:x'.length≤sizeLine:=by rw [sizeLine_eq]; omega
 have go:∀ (l:List (Str×Tok)) (tk:Nat),l.map (·.1) = Txt.split x' y→EP X pins σ' Q (.ref s.heap.objs.size) { s with toks:=tk,heap:=s.heap.push { cls:=.type "list",data:=.seq (strValues l).toArray } }:=by
  intro l tk el
  have hfr:H s.heap.objs.size = none:=I.hok.fresh (Nat.le_refl _)
  have hlen:((Txt.split x' y).map V.str).length≤sizeLine:=by
   have:=PyProof.Rows.split_le x' y
   rw [List.length_map,sizeLine_eq]; omega
  refine ⟨.ref s.heap.objs.size,_,I.laid (t':=tk) (fun _ _=>Heap.get?_push_of_some _) (Nat.le_refl _) (show ObjOk X.prog X.w _ _ _ (.lst ((Txt.split x' y).map V.str)) from ⟨hlen,strValues l,0,by rw [←el]; exact gI l,Heap.get?_push_size _ rfl⟩),rfl,?_⟩
  exact fin _ _ _ _ ho rfl (Rl.lay hfr) ⟨_,_,rfl,hfr,aC,d6 _⟩ (bR hfr)
 cases c1:(decide (x'.length < y.length) || decide (strKind x' < strKind y))
 ·cases hf:(occurrences x' y 0 x'.length (x'.length + 1)).isEmpty
  ·have es:Txt.split x' y = partsBetween x' (occurrences x' y 0 x'.length (x'.length + 1)) y.length:=(if_neg (ne_true_of_eq_false c1)).trans (if_neg (ne_true_of_eq_false hf))
   have hn:(partsBetween x' (occurrences x' y 0 x'.length (x'.length + 1)) y.length).length≤sizeLine:=by
    have:=PyProof.Rows.split_le x' y
    rw [es] at this
    rw [sizeLine_eq]; omega
   refine call_meets PySem.F.slot_str_split (typeIs_str _ _ _) PySem.F.entry_str_split (PySem.F.args_str_split_2 _ _) (meets_str_split_sep x' y t u c1 hy hf hsz hn) ?_
   have:=go (numbered s.toks (partsBetween x' (occurrences x' y 0 x'.length (x'.length + 1)) y.length)) (s.toks + (partsBetween x' (occurrences x' y 0 x'.length (x'.length + 1)) y.length).length) (by rw [numbered_texts,es])
   rw [←strsFrom_eq] at this
   exact this
  ·exact call_meets PySem.F.slot_str_split (typeIs_str _ _ _) PySem.F.entry_str_split (PySem.F.args_str_split_2 _ _) (meets_str_split_not_found x' y t u c1 hy hf) (go [(x',t)] s.toks ((if_neg (ne_true_of_eq_false c1)).trans (if_pos hf)).symm)
 ·exact call_meets PySem.F.slot_str_split (typeIs_str _ _ _) PySem.F.entry_str_split (PySem.F.args_str_split_2 _ _) (meets_str_split_cannot_occur x' y t u c1) (go [(x',t)] s.toks (if_pos c1).symm)
theorem Ah {m:MSt} {x y:Str} {K:R→MSt→Prop} (hy:(y.length == 0) = false) (hx:x.length≤1000000) (h:K (.new ((Txt.split x y).map .str)) m):yC (.imm (.str x)) [.imm (.str y)] m K:=⟨x,y,rfl,rfl,hy,hx,h⟩
def oStr:WC:=fun rs m K=>on1 (iQ fun i=>i.natAbs.log2 < 1920∧K (.imm (.str (toString i)))) rs
theorem iz:b9 X (.type "str") (cM X.kx oStr):=by
 rintro pins s σ' H xs us Q I rv ⟨α,m,σ,H0,rs,Kc,Rl,h,ho,fin⟩
 obtain ⟨r,v,rfl,rfl,h1,ho⟩:=bO h ho
 obtain ⟨i,rfl,rfl,hz,ho⟩:=k8 h1 ho
 exact l3 pins s σ' H _ us Q I rv ⟨i,rfl,hz,fin _ _ H ho Rl (dj (by simp only [Den])) (Frm.refl _ _)⟩
theorem AA {m:MSt} {i:Int} {Kr:R→Prop} (hz:i.natAbs.log2 < 1920) (h:Kr (.imm (.str (toString i)))):oStr [.imm (.int i)] m Kr:=⟨hz,h⟩
def GC:WC:=fun rs m K=>on1 (cf fun d=>∃ x n,d = .str x∧PySem.intText? x = some n∧x.length≤640∧K (.imm (.int n))) rs
theorem qm:b9 X (.type "int") (cM X.kx GC):=by
 rintro pins s σ' H xs us Q I rv ⟨α,m,σ,H0,rs,Kc,Rl,h,ho,fin⟩
 obtain ⟨r,v,rfl,rfl,h1,ho⟩:=bO h ho
 obtain ⟨d,rfl,hd,x,n,rfl,hn,hl,ho⟩:=cG h1 ho
 have ev:=aK (show Den X.kx H (.str x) v from hd)
 subst ev
 obtain ⟨w,rfl,t,rfl⟩:=rv.one
 exact PySem.W.KIN.call_text hn hl ⟨.int n,H,I.tok _,⟨_,rfl⟩,fin _ _ H ho Rl (cA _) (Frm.refl _ _)⟩
theorem Dm {m:MSt} {x:Str} {n:Int} {Kr:R→Prop} (hn:PySem.intText? x = some n) (hl:x.length≤640) (h:Kr (.imm (.int n))):GC [.imm (.str x)] m Kr:=⟨x,n,rfl,hn,hl,h⟩
def inS (i j:Str):Bool:=!(Builtin.Str.occurrences j i 0 j.length 1).isEmpty
def oInS (neg:Bool):WO:=fun r1 r2 m K=>cf (fun d1=>cf (fun d2=>∃ i j,d1 = .str i∧d2 = .str j∧K (.imm (.bool (if neg then !inS i j else inS i j)))) r2) r1
theorem p9:OpR X (compareOp .NotIn) (rM X.kx (oInS true)):=by
 rintro pins s σ' H x y v u Q I rx ry ⟨α,m,σ,H0,H1,r1,r2,Kc,Rl,h1,h2,ho,fin⟩
 obtain ⟨d1,rfl,hd1,ho⟩:=cG h1 ho
 obtain ⟨d2,e2,hd2,i,j,e3,e4,ho2⟩:=cG h2 ho
 subst e2 e3 e4
 have ev:=aK (show Den X.kx H (.str i) x from hd1)
 subst ev
 have ev:=aK (show Den X.kx H (.str j) y from hd2)
 subst ev
 exact lB pins s σ' H _ _ v u Q I rx ry ⟨i,j,rfl,rfl,fin _ _ H ho2 Rl (dj (by simp only [Den]; rfl)) (Frm.refl _ _)⟩
theorem Jg {m:MSt} {i j:Str} {neg:Bool} {Kr:R→Prop} (h:Kr (.imm (.bool (if neg then !inS i j else inS i j)))):oInS neg (.imm (.str i)) (.imm (.str j)) m Kr:=⟨i,j,rfl,rfl,h⟩
end
end L2
namespace K
open PySem L2 M7
def jl (c:Nat):List (List Nat)→List Nat
 | []=>[]
 | [x]=>x
 | x :: r=>x++c :: jl c r
theorem iI (c:Nat):∀ ts:List Str,(Str.join ⟨#[c]⟩ ts).cps.toList = jl c (ts.map fun x=>x.cps.toList)
 | []=>rfl
 | [x]=>rfl
 | x :: y :: r=>by
  have ih:=iI c (y :: r)
  show (x++⟨#[c]⟩++Str.join ⟨#[c]⟩ (y :: r)).cps.toList = _
  have e:(x++(⟨#[c]⟩ : Str)++Str.join ⟨#[c]⟩ (y :: r)).cps = x.cps++#[c]++(Str.join ⟨#[c]⟩ (y :: r)).cps:=rfl
  rw [e,Array.toList_append,Array.toList_append,ih]
  simp [jl]
theorem q0 {c:Nat}:∀ {x y A B:List Nat},c∉x→c∉y→x++c :: A = y++c :: B→x = y∧A = B
 | [],[],A,B,_,_,h=>⟨rfl,(List.cons.inj h).2⟩
 | [],b :: y,A,B,_,hy,h=>by
  have:=(List.cons.inj h).1
  subst this
  exact (hy List.mem_cons_self).elim
 | a :: x,[],A,B,hx,_,h=>by
  have:=(List.cons.inj h).1
  subst this
  exact (hx List.mem_cons_self).elim
 | a :: x,b :: y,A,B,hx,hy,h=>by
  obtain ⟨h1,h2⟩:=List.cons.inj h
  obtain ⟨h3,h4⟩:=q0 (fun z=>hx (List.mem_cons_of_mem _ z)) (fun z=>hy (List.mem_cons_of_mem _ z)) h2
  exact ⟨by rw [h1,h3],h4⟩
theorem yz {c:Nat}:∀ {a b:List (List Nat)},a≠[]→b≠[]→(∀ x∈a,c∉x)→(∀ x∈b,c∉x)→jl c a = jl c b→a = b
 | [],_,h,_,_,_,_=>(h rfl).elim
 | _ :: _,[],_,h,_,_,_=>(h rfl).elim
 | [x],[y],_,_,_,_,h=>by rw [show x = y from h]
 | [x],y :: z :: r,_,_,ha,hb,h=>by
  have h':x = y++c :: jl c (z :: r):=h
  exact (ha x List.mem_cons_self (by rw [h']; simp)).elim
 | x :: z :: r,[y],_,_,ha,hb,h=>by
  have h':x++c :: jl c (z :: r) = y:=h
  exact (hb y List.mem_cons_self (by rw [←h']; simp)).elim
 | x :: z :: r,y :: z' :: r',_,_,ha,hb,h=>by
  obtain ⟨h1,h2⟩:=q0 (ha x List.mem_cons_self) (hb y List.mem_cons_self) (show x++c :: jl c (z :: r) = y++c :: jl c (z' :: r') from h)
  rw [h1,yz (by simp) (by simp) (fun w hw=>ha w (List.mem_cons_of_mem _ hw)) (fun w hw=>hb w (List.mem_cons_of_mem _ hw)) h2]
theorem uZ {x y:Str} (h:x.cps.toList = y.cps.toList):x = y:=by
 cases x; cases y
 congr 1
 exact Array.ext' h
theorem im:∀ {a b:List Str},(a.map fun x=>x.cps.toList) = (b.map fun x=>x.cps.toList)→a = b
 | [],[],_=>rfl
 | [],_ :: _,h=>by cases h
 | _ :: _,[],h=>by cases h
 | x :: a,y :: b,h=>by
  obtain ⟨h1,h2⟩:=List.cons.inj h
  rw [uZ h1,im h2]
theorem pF {c:Nat} {ts:List Str} (hne:ts≠[]) (hc:∀ x∈ts,c∉x.cps.toList):Txt.split (Str.join ⟨#[c]⟩ ts) ⟨#[c]⟩ = ts:=by
 refine im (yz (c:=c) ?_ ?_ ?_ ?_ ?_)
 ·intro z
  have e:=List.map_eq_nil_iff.mp z
  have:=PyProof.Rows.split_pos (Str.join ⟨#[c]⟩ ts) ⟨#[c]⟩
  rw [e] at this
  exact absurd this (by decide)
 ·intro z; exact hne (List.map_eq_nil_iff.mp z)
 ·intro x hx
  obtain ⟨p,hp,rfl⟩:=List.mem_map.mp hx
  exact StrLaws.split_free _ c p hp
 ·intro x hx
  obtain ⟨p,hp,rfl⟩:=List.mem_map.mp hx
  exact hc p hp
 ·rw [←iI,←iI,StrLaws.join_split]
def fig (p:Nat):Str:=toString (p:Int)
theorem pc {p:Nat} (h:p < 10):(32∉(fig p).cps.toList)∧(fig p).length = 1∧(fig p).cps.all (· < 128) = true∧inS (fig p) "0123456789" = true∧PySem.intText? (fig p) = some (p:Int)∧((fig p == "") = false)∧(fig p).cps.toList.map (fun c=>(⟨#[c]⟩ : Str)) = [fig p]:=by
 rcases (show p = 0∨p = 1∨p = 2∨p = 3∨p = 4∨p = 5∨p = 6∨p = 7∨p = 8∨p = 9 by omega) with rfl | rfl | rfl | rfl | rfl | rfl | rfl | rfl | rfl | rfl <;> exact ⟨by decide +kernel,by decide +kernel,by decide +kernel,by decide +kernel,by decide +kernel,by decide +kernel,by decide +kernel⟩
theorem yQ (c:Nat):∀ a:List (List Nat),(jl c a).length≤(a.map List.length).sum + a.length
 | []=>Nat.le_refl _
 | [x]=>by simp [jl]
 | x :: y :: r=>by
  have ih:=yQ c (y :: r)
  show (x++c :: jl c (y :: r)).length≤_
  rw [List.length_append,List.length_cons,List.map_cons,List.sum_cons,List.length_cons]
  omega
theorem y3 {c d:Nat}:∀ {a:List (List Nat)},d∈jl c a→d = c∨∃ x∈a,d∈x
 | [],h=>by cases h
 | [x],h=>.inr ⟨x,List.mem_cons_self,h⟩
 | x :: y :: r,h=>by
  rcases List.mem_append.mp (show d∈x++c :: jl c (y :: r) from h) with h | h
  ·exact .inr ⟨x,List.mem_cons_self,h⟩
  ·rcases List.mem_cons.mp h with h | h
   ·exact .inl h
   ·rcases y3 h with h | ⟨z,hz,h⟩
    ·exact .inl h
    ·exact .inr ⟨z,List.mem_cons_of_mem _ hz,h⟩
end K
namespace HT
open PySem PySem.Spec PyProof.Rows
end HT
namespace L2
open PySem PySem.Spec PyProof.Rows
section
variable {X:Cx} {a b e st:Expr} {we wst:WE} {pos p2:Pos}
def FY:R→Option Int→Option Int→MSt→(R→Prop)→Prop:=fun r lo hi m K=>oCut r lo hi m K∨∃ x,r = .imm (.str x)∧x.length≤1000000∧K (.imm (.str (Txt.slice x lo hi)))
theorem vv:SlR X (sM X.kx FY):=by
 intro pins s σ' H x v vl vu lo hi sl Q I rx hs pl pu hq
 obtain ⟨α,m,σ,H0,r,Kc,Rl,h,ho,fin⟩:=hq
 rcases ho with ho | ⟨z,rfl,hz,k⟩
 ·exact c6 pins s σ' H x v vl vu lo hi sl Q I rx hs pl pu ⟨α,m,σ,H0,r,Kc,Rl,h,ho,fin⟩
 have ev:=aK (show Den X.kx H (.str z) x from h)
 subst ev
 obtain ⟨t,rfl⟩:=rx
 obtain ⟨ob,hos,hcs,hds⟩:=hs
 have hsz:z.length≤sizeLine:=by rw [sizeLine_eq]; omega
 have go:∀ t' tk,EP X pins σ' Q (.str (Txt.slice z lo hi) t') { s with toks:=tk }:=fun t' tk=>⟨.str _,H,I.tok _,⟨_,rfl⟩,fin _ _ H k Rl (dj (by simp only [Den])) (Frm.refl _ _)⟩
 refine ⟨"str",_,PySem.F.slot_str_getitem.lookup,typeIs_str _ _ _,?_⟩
 cases pl with
 | none=>cases pu with
  | none=>exact wpAny_getItem_str_slice (l:=none) (u:=none) (st:=none) ⟨ob,hos,hcs,hds⟩ rfl (post_val_or_str ⟨Nat.le_trans (Txt.slice_le z _ _) hsz,fun t' k=>go t' k⟩)
  | int j uj=>exact wpAny_getItem_str_slice (l:=none) (u:=some (j,uj)) (st:=none) ⟨ob,hos,hcs,hds⟩ rfl (post_val_or_str ⟨Nat.le_trans (Txt.slice_le z _ _) hsz,fun t' k=>go t' k⟩)
 | int i ui=>cases pu with
  | none=>exact wpAny_getItem_str_slice (l:=some (i,ui)) (u:=none) (st:=none) ⟨ob,hos,hcs,hds⟩ rfl (post_val_or_str ⟨Nat.le_trans (Txt.slice_le z _ _) hsz,fun t' k=>go t' k⟩)
  | int j uj=>exact wpAny_getItem_str_slice (l:=some (i,ui)) (u:=some (j,uj)) (st:=none) ⟨ob,hos,hcs,hds⟩ rfl (post_val_or_str ⟨Nat.le_trans (Txt.slice_le z _ _) hsz,fun t' k=>go t' k⟩)
theorem Fh {m:MSt} {x:Str} {lo hi:Option Int} {Kr:R→Prop} (hz:x.length≤1000000) (h:Kr (.imm (.str (Txt.slice x lo hi)))):FY (.imm (.str x)) lo hi m Kr:=.inr ⟨x,rfl,hz,h⟩
end
end L2
namespace K
open PySem L2 M7
mutual
def Gd (b:Nat):PyData→Prop
 | .none=>True
 | .bool _=>True
 | .int i=>i.natAbs≤b
 | .str x=>x.length≤b∧x.cps.all (· < 128) = true
 | .list ds=>GdA b ds
 | .tuple ds=>GdA b ds
 | .dict _=>False
def GdA (b:Nat):List PyData→Prop
 | []=>True
 | d :: ds=>Gd b d∧GdA b ds
end
mutual
def ms:PyData→Nat
 | .none=>4
 | .bool _=>5
 | .int _=>13
 | .str x=>10 * x.length + 2
 | .list ds=>3 + msA ds
 | .tuple ds=>3 + msA ds
 | .dict _=>0
def msA:List PyData→Nat
 | []=>0
 | d :: ds=>ms d + 2 + msA ds
end
theorem ul {b:Nat}:∀ {ds:List PyData},GdA b ds↔∀ d∈ds,Gd b d
 | []=>by simp [GdA]
 | d :: ds=>by simp [GdA,ul (ds:=ds)]
theorem depthAll_le {k:Nat}:∀ {ds:List PyData},PyData.depthAll ds≤k↔∀ d∈ds,d.depth≤k
 | []=>by simp only [PyData.depthAll]; simp
 | d :: ds=>by
  show max d.depth (PyData.depthAll ds)≤k↔_
  rw [Nat.max_le,depthAll_le (ds:=ds)]
  simp
mutual
theorem Gd.lay {b:Nat}:∀ {d:PyData},Gd b d→d.canLay0 = true
 | .none,_=>rfl
 | .bool _,_=>rfl
 | .int _,_=>rfl
 | .str x,g=>by
  simp only [Gd] at g
  show x.cps.all (· < 0x110000) = true
  have:=g.2
  rw [Array.all_eq_true'] at this ⊢
  exact fun c hc=>decide_eq_true (by have:=of_decide_eq_true (this c hc); omega)
 | .list ds,g=>by simp only [Gd] at g; exact GdA.lay g
 | .tuple ds,g=>by simp only [Gd] at g; exact GdA.lay g
 | .dict _,g=>by simp only [Gd] at g
theorem GdA.lay {b:Nat}:∀ {ds:List PyData},GdA b ds→PyData.canLayAll0 ds = true
 | [],_=>rfl
 | d :: ds,g=>by
  simp only [GdA] at g
  show (d.canLay0 && PyData.canLayAll0 ds) = true
  rw [Gd.lay g.1,GdA.lay g.2]; rfl
end
theorem Gd.shp {b:Nat} {d:PyData} (g:Gd b d):Shp d.depth d:=⟨g.lay,Nat.le_refl _⟩
def inW (a b:Int):PyData→Bool
 | .int i=>decide (a≤i) && decide (i≤b)
 | _=>false
def isWh:PyData→Bool
 | .int _=>true
 | _=>false
def tupN (n:Nat):PyData→Bool
 | .tuple ds=>decide (ds.length = n)
 | _=>false
theorem tQ {x:Str} {lo hi:Option Int} {c:Nat} (h:c∈(Txt.slice x lo hi).cps.toList):c∈x.cps.toList:=by
 unfold Txt.slice at h
 split at h
 ·exact h
 ·have h':c∈((Builtin.Str.strSliceIndices lo hi 1 x.length).filterMap (x.cps[·]?)):=by simpa using h
  obtain ⟨i,_,e⟩:=List.mem_filterMap.mp h'
  have:=Array.mem_of_getElem? e
  simpa using this
def Av:PyData→Bool
 | .tuple _=>true
 | _=>false
theorem FZ (d:PyData):(tyR (.imm d) == "tuple") = Av d:=by cases d <;> rfl
theorem zR {d:PyData} (h:Av d = false) (n:Nat):tupN n d = false:=by cases d <;> first | rfl | cases h
theorem rG (ds:List PyData):ms (.tuple ds) = 3 + msA ds:=by simp only [ms]
theorem tJ (ds:List PyData):(PyData.tuple ds).depth = PyData.depthAll ds + 1:=rfl
theorem gd_tup {b:Nat} {ds:List PyData}:Gd b (.tuple ds)↔∀ d∈ds,Gd b d:=by simp only [Gd]; exact ul
theorem yA {b:Nat} {x:Str} (h1:x.length≤7) (h2:x.cps.all (· < 128) = true) (hb : 7≤b):Gd b (.str x):=by simp only [Gd]; exact ⟨by omega,h2⟩
end K
namespace L2
open PySem PySem.Spec PyProof.Rows
section
variable {X:Cx} {e v1 v2:Expr} {es rest:List Expr} {we:WE} {pos:Pos}
def wFmt (we:WE):WE:=fun m K=>we m fun r m'=>cf (fun d=>(∃ x,d = .str x∧x.length≤1000000∧K (.imm (.str x)) m')∨∃ i:Int,d = .int i∧i.natAbs.log2 < 1920∧K (.imm (.str (toString i))) m') r
theorem IR (he:ME X e we):ME X (.FormattedValue e (-1) none pos) (wFmt we):=by
 rintro pins s σ H Q I ⟨α,m,Kc,Rl,hw,fin⟩
 refine PyProof.Rows.FormattedValue_plain (thn (he pins s σ H (fun v H'=>∃ r m',cf (fun d=>(∃ x,d = .str x∧x.length≤1000000∧Kc (.imm (.str x)) m')∨∃ i:Int,d = .int i∧i.natAbs.log2 < 1920∧Kc (.imm (.str (toString i))) m') r∧m'.np = m.np∧Rel X.kx α m' σ H'∧RelR X.kx α H H' r v∧Frm α H H') I
  ⟨α,m,_,Rl,hw,fun r m' v H' k n Rl' rr F=>⟨r,m',k,n,Rl',rr,F⟩⟩) fun v s1 ⟨x,H1,I1,r1,r,m',k,n,Rl',rr,F⟩=>?_)
 cases r with
 | new _=>exact k.elim
 | obj _=>exact k.elim
 | «at» _ _=>exact k.elim
 | newT _=>exact k.elim
 | imm d =>
  rcases k with ⟨y,rfl,hy,k⟩ | ⟨i,rfl,hi,k⟩
  ·have ev:=aK (show Den X.kx H1 (.str y) x from rr)
   subst ev
   obtain ⟨t,rfl⟩:=r1
   have go:∀ t' tk,EP X pins σ Q (.str y t') { s1 with toks:=tk }:=fun t' tk=>⟨.str _,H1,I1.tok _,⟨_,rfl⟩,fin _ m' _ H1 k n Rl' (dj (by simp only [Den])) F⟩
   exact wpAny_formatField_str (go _ _) (go _ _) (by rw [sizeLine_eq]; omega)
  ·have ev:=au (show Den X.kx H1 (.int i) x from rr)
   subst ev
   obtain ⟨t,rfl⟩:=r1
   exact wpAny_formatField_int hi ⟨.str _,H1,I1.tok _,⟨_,rfl⟩,fin _ m' _ H1 k n Rl' (dj (by simp only [Den])) F⟩
inductive MJ (X:Cx):List Expr→List WE→Prop where
 | nil:MJ X [] []
 | cons {e:Expr} {es:List Expr} {w:WE} {ws:List WE} (h:ME X e w) (r:MJ X es ws):MJ X (e :: es) (w :: ws)
def wJ:List WE→Str→MSt→(Str→MSt→Prop)→Prop
 | [],acc,m,K=>K acc m
 | w :: ws,acc,m,K=>w m fun r m'=>∃ x,r = .imm (.str x)∧(acc++x).length≤sizeLine∧wJ ws (acc++x) m' K
theorem oT {pins:List (Addr×Obj)} {σ : St} {α : Al} {Q:VK} {Kc:R→MSt→Prop}:∀ {es:List Expr} {ws:List WE},MJ X es ws→∀ (acc:Str) (m:MSt) (H:Hp) (s:Shared),acc.length≤sizeLine→Inv X pins σ H s→Rel X.kx α m σ H→wJ ws acc m (fun x m'=>Kc (.imm (.str x)) m') →
  (∀ r m' v H',Kc r m'→m'.np = m.np→Rel X.kx α m' σ H'→RelR X.kx α H H' r v→Frm α H H'→Q v H')→wpAny (model X.prog X.w) X.A (joinParts acc (evalEach es X.env)) (EP X pins σ Q) X.xe s
 | _,_,.nil,acc,m,H,s,ha,I,Rl,hw,fin=>by
  refine PyProof.Rows.joinParts_nil ⟨.str acc,H,I.tok _,⟨_,rfl⟩,fin _ m _ H hw rfl Rl (dj (by simp only [Den])) (Frm.refl _ _)⟩ ha
 | _,_,.cons (e:=e) (w:=w) he r,acc,m,H,s,ha,I,Rl,hw,fin=>by
  refine PyProof.Rows.joinParts_cons (thn (he pins s σ H (fun v H'=>∃ r m',(∃ x,r = .imm (.str x)∧(acc++x).length≤sizeLine∧wJ _ (acc++x) m' (fun x m'=>Kc (.imm (.str x)) m'))∧m'.np = m.np∧Rel X.kx α m' σ H'∧RelR X.kx α H H' r v∧Frm α H H') I
   ⟨α,m,_,Rl,hw,fun r m' v H' k n Rl' rr F=>⟨r,m',k,n,Rl',rr,F⟩⟩) fun v s1 ⟨x,H1,I1,r1,r2,m',⟨y,er,hz,k⟩,n,Rl',rr,F⟩=>?_)
  subst er
  have ev:=aK (show Den X.kx H1 (.str y) x from rr)
  subst ev
  obtain ⟨t,rfl⟩:=r1
  exact ⟨hz,oT r (acc++y) m' H1 s1 hz I1 Rl' k fun r m'' v H' k' n' Rl'' rr' F'=>fin r m'' v H' k' (n'.trans n) Rl'' (rr'.base Rl' F) (F.trans F')⟩
def mO (ws:List WE):WE:=fun m K=>wJ ws Str.empty m fun x m'=>K (.imm (.str x)) m'
theorem rH {ws:List WE} (h:MJ X (v1 :: v2 :: rest) ws):ME X (.JoinedStr (v1 :: v2 :: rest) pos) (mO ws):=by
 rintro pins s σ H Q I ⟨α,m,Kc,Rl,hw,fin⟩
 exact PyProof.Rows.JoinedStr_many (oT h Str.empty m H s (by decide +kernel) I Rl hw fin)
structure EJ (X:Cx) (es:List Expr) (ws:List WE):Prop where
 h:MJ X es ws
theorem z0:EJ X [] []:=⟨.nil⟩
theorem oj {w:WE} {ws:List WE} (h:EE X e w) (r:EJ X es ws):EJ X (e :: es) (w :: ws):=⟨.cons h.h r.h⟩
theorem BU (he:EE X e we):EE X (.FormattedValue e (-1) none pos) (wFmt we):=⟨IR he.h⟩
theorem pV {ws:List WE} (h:EJ X (v1 :: v2 :: rest) ws):EE X (.JoinedStr (v1 :: v2 :: rest) pos) (mO ws):=⟨rH h.h⟩
theorem vT {ws:List WE} {m:MSt} {K:R→MSt→Prop} (h:wJ ws Str.empty m fun x m'=>K (.imm (.str x)) m'):mO ws m K:=h
theorem DH {acc:Str} {m:MSt} {K:Str→MSt→Prop} (h:K acc m):wJ [] acc m K:=h
theorem qP {w:WE} {ws:List WE} {acc:Str} {m:MSt} {K:Str→MSt→Prop} (h:w m fun r m'=>∃ x,r = .imm (.str x)∧(acc++x).length≤sizeLine∧wJ ws (acc++x) m' K):wJ (w :: ws) acc m K:=h
theorem Ku {m:MSt} {K:R→MSt→Prop} (h:we m fun r m'=>cf (fun d=>(∃ x,d = .str x∧x.length≤1000000∧K (.imm (.str x)) m')∨∃ i:Int,d = .int i∧i.natAbs.log2 < 1920∧K (.imm (.str (toString i))) m') r):wFmt we m K:=h
def t6:WM:=fun r rs m K=>on1 (cf fun d=>∃ x y,r = .imm (.str x)∧d = .str y∧K (.imm (.bool (Txt.startswith x y))) m) rs
theorem jo:MtM X "str.startswith" (mM X.kx t6):=by
 rintro pins s σ' H x xs v us Q I rx rv ⟨α,m,σ,H0,H1,r,rs,Kc,Rl,h1,h2,ho,fin⟩
 obtain ⟨r2,v2,rfl,rfl,h2,ho⟩:=bO h2 ho
 obtain ⟨d,e1,hd,x',y,e2,e3,ho2⟩:=cG h2 ho
 subst e1 e2 e3
 have ev:=aK (show Den X.kx H (.str x') x from h1)
 subst ev
 have ev:=aK (show Den X.kx H (.str y) v2 from hd)
 subst ev
 obtain ⟨t,rfl⟩:=rx
 obtain ⟨w,rfl,u,rfl⟩:=rv.one
 exact call_gives PySem.F.slot_str_startswith (typeIs_str _ _ _) PySem.F.entry_str_startswith (PySem.F.args_str_startswith_2 _ _) (gives_str_startswith x' y t u) ⟨.bl _,H,I,rfl,fin _ _ _ H ho2 rfl Rl (dj (by simp only [Den]; rfl)) (Frm.refl _ _)⟩
theorem pv {m:MSt} {x y:Str} {K:R→MSt→Prop} (h:K (.imm (.bool (Txt.startswith x y))) m):t6 (.imm (.str x)) [.imm (.str y)] m K:=⟨x,y,rfl,rfl,h⟩
end
section
variable {X:Cx}
def ur:WM:=fun r rs m K=>on1 (cf fun d=>∃ ds,r = .imm (.tuple ds)∧d.canLay0 = true∧PyData.canLayAll0 ds = true∧d.depth≤60∧K (.imm (.int ((ds.countP fun y=>PyData.eqv y d:Nat):Int))) m) rs
theorem pJ (hu:X.A.units + 64 < cLine):MtM X "tuple.count" (mM X.kx ur):=by
 rintro pins s σ' H x xs v us Q I rx rv ⟨α,m,σ,H0,H1,r,rs,Kc,Rl,h1,h2,ho,fin⟩
 obtain ⟨r2,v2,rfl,rfl,h2,ho⟩:=bO h2 ho
 obtain ⟨d,rfl,hd,ds,rfl,c1,c2,dp,ho⟩:=cG h2 ho
 obtain ⟨a,zs,rfl,f,g⟩:=aY (show Den X.kx H (.tuple ds) x from h1)
 cases rx
 obtain ⟨u,rfl,ru⟩:=rv.one
 obtain ⟨bs,qd⟩:=Den.reads I (PyData.hasDict_of_canLay _ c1) hd ru
 obtain ⟨its,rvv,⟨o,ho1,hc,hdict,n,hdata⟩,hz⟩:=I.tupleP f
 obtain ⟨as,rds⟩:=DenAll.reads I (PyData.hasDictAll_of_canLayAll _ c2) g rvv
 have hm:X.A.units + 1 + min (PyData.depthAll ds) d.depth < cLine:=by have:=Nat.min_le_right (PyData.depthAll ds) d.depth; omega
 have hmap:=SeqAt.readsAll_map ds _ _ c2 rds
 obtain ⟨cls,dd,data,sl⟩:=o
 dsimp only at hc hdata
 subst hc
 subst hdata
 refine call_meets PySem.F.slot_tuple_count ⟨_,ho1,rfl⟩ PySem.F.entry_tuple_count (PySem.F.args_tuple_count_2 _ _)
  (SeqAt.tuple_countAt a its.toArray _ dd sl u (fun y=>PyData.eqv (SeqAt.readOf s.heap y) d)) ⟨ho1,SeqAt.items_eqAt (by simpa using rds) qd c2 c1 hm,?_⟩
 have ec:its.toArray.toList.countP (fun y=>PyData.eqv (SeqAt.readOf s.heap y) d) = ds.countP fun y=>PyData.eqv y d:=by
  rw [←hmap,List.countP_map]; rfl
 rw [ec]
 exact ⟨.int _,H,I.tok _,⟨_,rfl⟩,fin _ _ _ H ho rfl Rl (cA _) (Frm.refl _ _)⟩
theorem wn {m:MSt} {d:PyData} {ds:List PyData} {k k':Nat} {K:R→MSt→Prop} (s1:Shp k d) (s2:∀ y∈ds,Shp k' y) (hk:k≤60) (h:K (.imm (.int ((ds.countP fun y=>PyData.eqv y d:Nat):Int))) m):ur (.imm (.tuple ds)) [.imm d] m K :=
 ⟨ds,rfl,s1.cl,(gw s2).1,Nat.le_trans s1.dp hk,h⟩
end
end L2
namespace K
open PySem L2 M7
def cntD (ds:List PyData) (x:PyData):Nat:=ds.countP fun y=>PyData.eqv y x
def isOr (h:Hall):PyData→Bool
 | .tuple ds=>decide (ds.length = h.ss.length) && ds.all fun x=>inW 0 ((h.ss.length:Int) - 1) x && decide (cntD ds x = 1)
 | _=>false
def isMv (h:Hall):PyData→Bool
 | .tuple [x]=>PyData.eqv x (.str "still")
 | .tuple [x,y]=>if PyData.eqv x (.str "come") then isOr h y else PyData.eqv x (.str "done") && inW 0 ((h.ss.length:Int) - 1) y
 | _=>false
theorem ko (h:Hall) (ds:List PyData):isOr h (.tuple ds) = (decide (ds.length = h.ss.length) && ds.all fun x=>inW 0 ((h.ss.length:Int) - 1) x && decide (cntD ds x = 1)):=rfl
theorem vF (h:Hall) (x:PyData):isMv h (.tuple [x]) = PyData.eqv x (.str "still"):=rfl
theorem kE (h:Hall) (x y:PyData):isMv h (.tuple [x,y]) = if PyData.eqv x (.str "come") then isOr h y else PyData.eqv x (.str "done") && inW 0 ((h.ss.length:Int) - 1) y:=rfl
theorem qi (h:Hall) {d:PyData} (e1:tupN 1 d = false) (e2:tupN 2 d = false):isMv h d = false:=by
 cases d with
 | tuple ds =>
  match ds,e1,e2 with
  | [],_,_=>rfl
  | [_],e1,_=>simp [tupN] at e1
  | [_,_],_,e2=>simp [tupN] at e2
  | _ :: _ :: _ :: _,_,_=>rfl
 | _=>rfl
theorem zp {d:PyData} (e:tupN 2 d = true):∃ x y,d = .tuple [x,y]:=by
 cases d with
 | tuple ds =>
  have el:ds.length = 2:=by simpa [tupN] using e
  match ds,el with
  | [x,y],_=>exact ⟨x,y,rfl⟩
 | _=>cases e
theorem zc {d:PyData} (e:tupN 1 d = true):∃ x,d = .tuple [x]:=by
 cases d with
 | tuple ds =>
  have el:ds.length = 1:=by simpa [tupN] using e
  match ds,el with
  | [x],_=>exact ⟨x,rfl⟩
 | _=>cases e
theorem Jq {n:Nat} {d:PyData} (e:tupN n d = true):∃ ds,d = .tuple ds∧ds.length = n:=by
 cases d with
 | tuple ds=>exact ⟨ds,rfl,by simpa [tupN] using e⟩
 | _=>cases e
theorem yh (h:Hall) {d:PyData} (e:tupN h.ss.length d = false):isOr h d = false:=by
 cases d with
 | tuple ds =>
  have e':¬ ds.length = h.ss.length:=by simpa [tupN] using e
  rw [ko,decide_eq_false e',Bool.false_and]
 | _=>rfl
mutual
def wd:PyData→Nat
 | .list ds=>max ds.length (wdA ds)
 | .tuple ds=>max ds.length (wdA ds)
 | _=>0
def wdA:List PyData→Nat
 | []=>0
 | d :: ds=>max (wd d) (wdA ds)
end
theorem yF (ds:List PyData):wd (.tuple ds) = max ds.length (wdA ds):=by simp only [wd]
theorem wdA_le {k:Nat}:∀ {ds:List PyData},wdA ds≤k↔∀ d∈ds,wd d≤k
 | []=>by simp [wdA]
 | d :: ds=>by simp only [wdA]; rw [Nat.max_le,wdA_le (ds:=ds)]; simp
theorem Ay (n:Nat):(fig n).cps.toList = (Nat.toDigits 10 n).map Char.toNat:=PySem.W.KIN.signs_num n
theorem AV:∀ m:Nat,1≤m→∃ c r,Nat.toDigits 10 m = c :: r∧c≠'0':=by
 intro m
 induction m using Nat.strongRecOn with | _ m ih =>
  intro h1
  by_cases h:m < 10
  ·have e0:=Nat.toDigits_of_lt_base h
   rw [e0]
   refine ⟨_,[],rfl,?_⟩
   have:∀ d:Nat,d < 10→1≤d→Nat.digitChar d≠'0':=by decide
   exact this m h h1
  ·have t:=Nat.toDigits_append_toDigits (b:=10) (n:=m / 10) (d:=m % 10) (by decide) (by omega) (Nat.mod_lt m (by decide))
   rw [Nat.div_add_mod] at t
   obtain ⟨c,r,e,hc⟩:=ih (m / 10) (by omega) (by omega)
   exact ⟨c,r++Nat.toDigits 10 (m % 10),by rw [←t,e]; rfl,hc⟩
theorem Af {n:Nat} (h:n < 1000000) : 1≤(fig n).length∧(fig n).length≤40:=by
 constructor
 ·have e:(fig n).cps.toList.length = (fig n).length:=by simp [Str.length]
  rw [←e,Ay,List.length_map]
  rcases Nat.eq_zero_or_pos n with rfl | hp
  ·decide
  ·obtain ⟨c,r,e,_⟩:=AV n hp
   rw [e]; simp
 ·exact Nat.le_trans (PySem.W.KT.len_num (n:=(n:Int)) (by omega) (by omega)) (by decide)
theorem fc {n:Nat} (h:n < 1000000):((n:Int).natAbs).log2 < 1920:=by
 show n.log2 < 1920
 exact Nat.lt_of_lt_of_le (jD (k:=20) (Nat.lt_of_lt_of_le h (by decide)) (by decide)) (by decide)
end K
namespace L2
open PySem PySem.Spec PyProof.Rows
section
variable {X:Cx}
theorem p4 {prog:Program} {w:World} {A:Around} {E:Value→Shared→Prop} {s:Shared} {Q:Value→Shared→Prop} {l:Addr} {its:Array Value} {n:Nat} {i:Int} {t:Tok} {u:Value} (e:s.heap.get? l = some { cls:=.type "list",data:=.seq its n }) (hf:¬(!Builtin.List.listFitsIndex i) = true) (hsz:its.size≤sizeLine)
  (h:Q .none { s with heap:=s.heap.update l (Obj.mapSeq fun xs=>(xs.extract 0 (if i < 0 then (i + ((xs.size:Nat):Int)).toNat else min i.toNat xs.size)).push u++xs.extract (if i < 0 then (i + ((xs.size:Nat):Int)).toNat else min i.toNat xs.size)) }):wpAny (model prog w) A (call (.builtin "list.insert") [.ref l,.int i t,u]) Q E s:=by
 have mt:=@PySem.AutoListH.list_insert_list_int_val_1 l its n i t u hf hsz
 have tl:s.TypeIs (.ref l) "list" := ⟨_,e,rfl⟩
 have h1:=wpAny_call (Q:=Q) (E:=E) (A:=A) (s:=s) (codeAny_call_builtin F.slot_list_insert.plain F.entry_list_insert (F.slot_list_insert.check _ _ _ _ _ _ _ _ tl (F.args_list_insert_3 (.ref l) (.int i t) u) (mt prog w A (wants Q E) s ⟨e,h⟩)))
 exact h1
def CB:V→List V→Hp→VK→Prop:=fun x vs H Q=>∃ (l:Addr) (xs:List V) (i:Nat) (y:V),x = .ref l∧vs = [.int (i:Int),y]∧H l = some (.lst xs)∧i≤xs.length∧i < 2 ^ 62∧xs.length < sizeLine∧Q .non (upd H l (.lst (xs.take i++[y]++xs.drop i)))
theorem sD:MtM X "list.insert" CB:=by
 intro pins s σ H x vs v us Q I rx rv h
 obtain ⟨l,xs,i,y,rfl,rfl,hH,hi,hi2,hz,q⟩:=h
 cases rx
 cases rv with
 | cons r1 r2 =>
  cases r2 with
  | cons r2 r3 =>
   cases r3
   rename_i u1 u
   obtain ⟨t,rfl⟩:=r1
   obtain ⟨z,its,n,r,hl,e⟩:=I.lstM hH
   have hf:¬ (!Builtin.List.listFitsIndex (i:Int)) = true:=by
    have:Builtin.List.listFitsIndex (i:Int) = true:=fitsIndex_both (by omega) (by omega)
    rw [this]; decide
   have hsz:its.toArray.size≤sizeLine:=by rw [List.size_toArray]; omega
   refine p4 e hf hsz ?_
   refine ⟨.non,_,I.lset (its':=its.take i++[u]++its.drop i) hH e ?_ (((r.take i).append (.cons r2 .nil)).append (r.drop i)) ?_,rfl,q⟩
   ·show (its.toArray.extract 0 (if (i:Int) < 0 then ((i:Int) + ((its.toArray.size:Nat):Int)).toNat else min (i:Int).toNat its.toArray.size)).push u++its.toArray.extract (if (i:Int) < 0 then ((i:Int) + ((its.toArray.size:Nat):Int)).toNat else min (i:Int).toNat its.toArray.size) = _
    rw [if_neg (by omega),show min (i:Int).toNat its.toArray.size = i by rw [List.size_toArray]; omega]
    simp
    exact List.take_of_length_le (by rw [List.length_drop]; omega)
   ·simp only [List.length_append,List.length_take,List.length_drop,List.length_cons,List.length_nil]
    omega
def vb:WM:=fun r rs m K=>lH (fun k=>∃ (i:Nat) (d:PyData) (ds:List PyData),rs = [.imm (.int (i:Int)),.imm d]∧m.os[k]? = some ds∧i≤ds.length∧ds.length < sizeLine∧K (.imm .none) { m with os:=m.os.set k (ds.take i++[d]++ds.drop i) }) r
theorem qz:MtM X "list.insert" (mM X.kx vb):=by
 rintro pins s σ' H x xs v us Q I rx rv ⟨α,m,σ,H0,H1,r,rs,Kc,Rl,h1,h2,ho,fin⟩
 obtain ⟨k,a,rfl,ea,rfl,ho⟩:=n5 h1 ho
 obtain ⟨i,d,ds,rfl,e1,hi,hz,ho⟩:=ho
 cases h2 with
 | cons q1 q2 =>
  cases q2 with
  | cons q2 q3 =>
   cases q3
   rename_i v1 v2
   have ev:=au (show Den X.kx H (.int (i:Int)) v1 from q1)
   subst ev
   have hd:Den X.kx H d v2:=q2
   obtain ⟨ys,q,g⟩:=Rl.own _ _ ds ea e1
   obtain ⟨R2,F2⟩:=Rl.setO ea q (((g.take i).append (DenAll.cons hd DenAll.nil)).append (g.drop i))
   have hzz:ds.length < 16777216:=by rw [←sizeLine_eq]; exact hz
   exact sD pins s σ' H _ _ v us Q I rx rv ⟨a,ys,i,v2,rfl,rfl,q,by rw [←g.length]; exact hi,by omega,by rw [←g.length]; exact hz,fin _ _ _ _ ho rfl R2 l7 F2⟩
theorem w6 {m:MSt} {k i:Nat} {d:PyData} {ds:List PyData} {K:R→MSt→Prop} (e:m.os[k]? = some ds) (hi:i≤ds.length) (hz:ds.length < sizeLine) (h:K (.imm .none) { m with os:=m.os.set k (ds.take i++[d]++ds.drop i) }):vb (.obj k) [.imm (.int (i:Int)),.imm d] m K:=⟨i,d,ds,rfl,e,hi,hz,h⟩
end
end L2
namespace L2
open PySem PySem.Spec PyProof.Rows
open Sem (wp)
def nu (s:Stmt):List Stmt:=match s with
 | .ClassDef _ _ _ b _ _ _ _ _ _ _=>b
 | _=>[]
end L2
namespace K
open PySem L2 M7
theorem Iu {z:Nat} {d:PyData} (h:Gd z d):ndR (.imm d) = true:=by cases d <;> first | rfl | (simp only [Gd] at h)
def yZ:SpM:=fun as K=>∃ (b:Nat) (d:PyData),as = [.imm d]∧Gd b d∧K (.imm (.bool (isWh d))) []
def Fv:SpM:=fun as K=>∃ (z:Nat) (d:PyData) (a b:Int),as = [.imm d,.imm (.int a),.imm (.int b)]∧Gd z d∧K (.imm (.bool (inW a b d))) []
def uE:SpM:=fun as K=>∃ (z:Nat) (h:Hall) (d:PyData),as = [.imm h.d,.imm d]∧h.Ok∧Gd z d∧K (.imm (.bool (inW 0 ((h.ss.length:Int) - 1) d))) []
structure AT (n:Nat) (x:Str):Prop where
 len:x.length≤n
 asc:x.cps.all (· < 128) = true
theorem AT.mono {n k:Nat} {x:Str} (h:AT n x) (hk:n≤k):AT k x:=⟨Nat.le_trans h.len hk,h.asc⟩
theorem AT.lay {n:Nat} {x:Str} (h:AT n x):(PyData.str x).canLay0 = true:=by
 show x.cps.all (· < 0x110000) = true
 have:=h.asc
 rw [Array.all_eq_true'] at this ⊢
 exact fun c hc=>decide_eq_true (by have:=of_decide_eq_true (this c hc); omega)
theorem asc_iff {x:Str}:x.cps.all (· < 128) = true↔∀ c∈x.cps.toList,c < 128:=by
 rw [Array.all_eq_true']
 exact ⟨fun h c hc=>of_decide_eq_true (h c (by simpa using hc)),fun h c hc=>decide_eq_true (h c (by simpa using hc))⟩
def figN (w:Str):Option Nat:=(List.range 10).find? fun p=>decide (w = fig p)
def figD (w:Str):PyData:=match figN w with | some p=>.int (p:Int) | none=>.none
theorem il {w:Str} {p:Nat} (h:figN w = some p):w = fig p∧p < 10:=by
 unfold figN at h
 obtain ⟨h1,h2,_⟩:=List.find?_range_eq_some.mp h
 exact ⟨of_decide_eq_true h1,List.mem_range.mp h2⟩
theorem xu:∀ p:Nat,p < 10→figN (fig p) = some p:=by decide +kernel
theorem yd:∀ c:Nat,c < 128→inS ⟨#[c]⟩ "0123456789" = (figN ⟨#[c]⟩).isSome:=by decide +kernel
theorem Gn {w:Str} (h:w.length = 1):∃ c,w = ⟨#[c]⟩:=by
 obtain ⟨⟨l⟩⟩:=w
 match l,h with
 | [c],_=>exact ⟨c,rfl⟩
theorem vO {w:Str} (h:(figN w).isSome = true):w.length = 1:=by
 obtain ⟨p,hp⟩:=Option.isSome_iff_exists.mp h
 obtain ⟨rfl,h10⟩:=il hp
 exact (pc h10).2.1
theorem sG (w:Str):Gd 9 (figD w):=by
 unfold figD
 cases h:figN w with
 | none=>trivial
 | some p =>
  have:=(il h).2
  simp only [Gd]; omega
def u4:SpM:=fun as K=>∃ (w:Str),as = [.imm (.str w)]∧w.length = 1∧AT 1 w∧K (.imm (.bool (figN w).isSome)) []
def yk:SpM:=fun as K=>∃ (n:Nat) (w:Str),as = [.imm (.str w)]∧AT n w∧n≤1000000∧K (.imm (figD w)) []
structure WS (n:Nat) (ws:List Str):Prop where
 wt:(ws.map (·.length)).sum + ws.length≤n
 asc:∀ w∈ws,w.cps.all (· < 128) = true
theorem WS.len {n:Nat} {ws:List Str} (h:WS n ws):ws.length≤n:=by have:=h.wt; omega
theorem re (c:Nat):∀ a:List (List Nat),a≠[]→(jl c a).length + 1 = (a.map List.length).sum + a.length
 | [],h=>(h rfl).elim
 | [x],_=>by simp [jl]
 | x :: y :: r,_=>by
  have ih:=re c (y :: r) (by simp)
  show (x++c :: jl c (y :: r)).length + 1 = _
  rw [List.length_append,List.length_cons,List.map_cons,List.sum_cons,List.length_cons]
  omega
theorem yo {c d:Nat}:∀ {a:List (List Nat)} {x:List Nat},x∈a→d∈x→d∈jl c a
 | [],_,h,_=>by cases h
 | [y],x,h,hd=>by rw [List.mem_singleton.mp h] at hd; exact hd
 | y :: z :: r,x,h,hd=>by
  show d∈y++c :: jl c (z :: r)
  obtain rfl | h:=List.mem_cons.mp h
  ·exact List.mem_append_left _ hd
  ·exact List.mem_append_right _ (List.mem_cons_of_mem _ (yo h hd))
theorem vJ (x:Str):Txt.split x " " ≠ []:=fun z=>by
 have:=PyProof.Rows.split_pos x " "
 rw [z] at this; exact absurd this (by decide)
theorem vX (x:Str):jl 32 ((Txt.split x " ").map fun w=>w.cps.toList) = x.cps.toList:=by
 have e:(" " : Str) = ⟨#[32]⟩:=by decide +kernel
 have:=iI 32 (Txt.split x " ")
 rw [←this,←e,StrLaws.join_split]
theorem wZ {n:Nat} {x:Str} (h:AT n x):WS (n + 1) (Txt.split x " "):=by
 have e:=vX x
 have l:=re 32 ((Txt.split x " ").map fun w=>w.cps.toList) (by simpa using vJ x)
 rw [e,List.length_map] at l
 have e2:((Txt.split x " ").map fun w=>w.cps.toList).map List.length = (Txt.split x " ").map (·.length):=by rw [List.map_map]; rfl
 rw [e2] at l
 have hx:x.cps.toList.length = x.length:=rfl
 refine ⟨by have:=h.len; omega,fun w hw=>asc_iff.mpr fun c hc=>asc_iff.mp h.asc c ?_⟩
 rw [←e]
 exact yo (List.mem_map.mpr ⟨w,hw,rfl⟩) hc
theorem z7 {n:Nat} {ws:List Str} (h:WS n ws):AT n (Txt.join " " ws):=by
 have e1:(" " : Str) = ⟨#[32]⟩:=by decide +kernel
 have e0:Txt.join " " ws = Str.join ⟨#[32]⟩ ws:=by rw [←e1]; exact StrLaws.glued_eq_join _ _
 have e:=iI 32 ws
 have l:=yQ 32 (ws.map fun w=>w.cps.toList)
 have e2:(ws.map fun w=>w.cps.toList).map List.length = ws.map (·.length):=by rw [List.map_map]; rfl
 rw [e2,List.length_map] at l
 have hw:=h.wt
 refine ⟨?_,?_⟩
 ·have:(Txt.join " " ws).length = (jl 32 (ws.map fun w=>w.cps.toList)).length:=by rw [e0,←e]; rfl
  omega
 ·rw [asc_iff,e0,e]
  intro c hc
  rcases y3 hc with rfl | ⟨y,hy,hc⟩
  ·decide
  ·obtain ⟨w,hw,rfl⟩:=List.mem_map.mp hy
   exact asc_iff.mp (h.asc w hw) c hc
theorem AT.slice {n:Nat} {x:Str} (h:AT n x) (lo hi:Option Int):AT n (Txt.slice x lo hi) :=
 ⟨Nat.le_trans (Txt.slice_le x lo hi) h.len,asc_iff.mpr fun c hc=>asc_iff.mp h.asc c (tQ hc)⟩
def rZ:SpM:=fun as K=>∃ (z:Nat) (d:PyData) (n:Nat),as = [.imm d,.imm (.int (n:Int))]∧Gd z d∧K (.imm (.bool (tupN n d))) []
def yH:SpM:=fun as K=>∃ (z:Nat) (h:Hall) (d:PyData),as = [.imm h.d,.imm d]∧h.Ok∧Gd z d∧d.depth≤50∧K (.imm (.bool (isOr h d))) []
def yR:SpM:=fun as K=>∃ (z:Nat) (h:Hall) (d:PyData),as = [.imm h.d,.imm d]∧h.Ok∧Gd z d∧d.depth≤50∧ms d≤1000000∧wd d≤60∧K (.imm (.bool (isMv h d))) []
end K
namespace L2
open PySem PySem.Spec PyProof.Rows
noncomputable instance instDecPyData:DecidableEq PyData:=fun a b=>Classical.propDecidable (a = b)
section
variable {K:Kd} {H:Hp} {τ : List (List Nat×Addr)} {p:List Nat}
theorem gh:∀ {ds:List PyData} {i:Nat} {xs:List V},DenAll K H ds xs→TAtL K H τ p i (ds.map lfD) xs
 | [],_,_,h=>by simpa only [List.map_nil,TAtL,DenAll] using h
 | d :: ds,i,_,h=>by
  simp only [DenAll] at h
  obtain ⟨v,vs,rfl,h1,h2⟩:=h
  simp only [List.map_cons,TAtL]
  exact ⟨v,vs,rfl,kZ h1,gh h2⟩
end
section
variable {K:Kx} {α : Al} {m:MSt} {σ : St} {H:Hp} {k:Nat} {p:List Nat} {τ : List (List Nat×Addr)} {a:Addr} {t:PyData} {ts ds:List PyData}
theorem Rel.listN (Rl:Rel K α m σ H) (e1 : α[k]? = some (.T τ)) (e2 : τ.lookup p = some a) (e3:m.os[k]? = some [t]) (e4:getT t p = some (.list ts)):∃ xs,H a = some (.lst xs)∧TAtL K H τ p 0 ts xs:=by
 obtain ⟨⟨t1,v0,z,g,_⟩,_⟩:=Rl.own k (.T τ) _ e1 e3
 cases z
 obtain ⟨v',g'⟩:=g.get e4
 rw [List.nil_append] at g'
 simp only [TAt] at g'
 obtain ⟨a',xs,ea,_,ed,gk⟩:=g'
 rw [e2] at ea; cases ea
 exact ⟨xs,ed,gk⟩
theorem Rel.setLs {xs xs':List V} {ds':List PyData} (Rl:Rel K α m σ H) (e1 : α[k]? = some (.T τ)) (e2 : τ.lookup p = some a) (e3:m.os[k]? = some [t]) (e4:getT t p = some (.list ts)) (ok:okW t p = true) (hx:H a = some (.lst xs)) (g':DenAll K H ds' xs') :
  Rel K α { m with os:=m.os.set k [setT t p (.list (ds'.map lfD))] } σ (upd H a (.lst xs'))∧Frm α H (upd H a (.lst xs')):=by
 obtain ⟨⟨t1,v0,z,g,a0,ea0,ev0⟩,mu⟩:=Rl.own k (.T τ) _ e1 e3
 cases z
 have pe:Pers H (upd H a (.lst xs')):=aZ (.inr ⟨_,hx,rfl⟩)
 have nd:(τ.map (·.2)).Nodup:=((dI α).mp Rl.nd).1 (.T τ) (List.mem_of_getElem? e1)
 have new:TAt K (upd H a (.lst xs')) τ p (.list (ds'.map lfD)) (.ref a):=by
  simp only [TAt]
  exact ⟨a,xs',e2,rfl,aC,gh (g'.mono pe)⟩
 have all:TAt K (upd H a (.lst xs')) τ [] (setT t p (.list (ds'.map lfD))) v0:=TAt.set nd pe g e4 ok (by rw [List.nil_append]; exact e2) (by rw [List.nil_append]; exact new) fun u hu'=>by
  rw [List.nil_append] at hu'
  simp only [TAt] at hu'
  obtain ⟨a',_,ea',eu,_⟩:=hu'
  rw [e2] at ea'; cases ea'
  exact eu
 exact Rl.setW e1 pe (ds':=[setT t p (.list (ds'.map lfD))]) (fun b hb=>av fun eb=>hb (eb▸bv e2)) ⟨⟨_,v0,rfl,all,a0,ea0,ev0⟩,fun b hb=>by
  by_cases eb:b = a
  ·subst eb; exact ⟨_,aC,rfl⟩
  ·rw [av eb]; exact mu b hb⟩
end
section
variable {X:Cx} {o e:Expr} {wo:WE} {apos cpos:Pos}
def JV (m:MSt) (k:Nat) (p:List Nat) (P:List PyData→(List PyData→MSt)→Prop):Prop:=∃ t ts ds,m.os[k]? = some [t]∧getT t p = some (.list ts)∧ce ts = some ds∧okW t p = true∧P ds fun ds'=>{ m with os:=m.os.set k [setT t p (.list (ds'.map lfD))] }
def kq:WM:=fun r rs m K=>onAt (fun k p=>on1 (cf fun d=>JV m k p fun ds f=>ds.length < sizeLine∧K (.imm .none) (f (ds++[d]))) rs) r
theorem pC:MtM X "list.append" (mM X.kx kq):=by
 rintro pins s σ' H x xs v us Q I rx rv ⟨α,m,σ,H0,H1,r,rs,Kc,Rl,h1,h2,ho,fin⟩
 obtain ⟨k,p,τ,a,rfl,e1,e2,rfl,ho⟩:=uq h1 ho
 obtain ⟨r2,v2,rfl,rfl,h2,ho⟩:=bO h2 ho
 obtain ⟨d,rfl,hd,t,ts,ds,e3,e4,e5,ok,hz,ho⟩:=cG h2 ho
 obtain ⟨ys,q,g0⟩:=Rl.listN e1 e2 e3 e4
 have g:=fZ g0 e5
 obtain ⟨R2,F2⟩:=Rl.setLs e1 e2 e3 e4 ok q (g.append (DenAll.cons hd DenAll.nil))
 exact ix pins s σ' H _ _ v us Q I rx rv ⟨a,ys,_,rfl,rfl,q,by rw [←g.length]; exact hz,fin _ _ _ _ ho rfl R2 l7 F2⟩
def oZ:WO:=fun r1 r2 m K=>onAt (fun k p=>iQ (fun i=>∃ t ts j t',m.os[k]? = some [t]∧getT t p = some (.list ts)∧ixN ts.length i = some j∧ts[j]? = some t'∧K (fj k p j t')) r2) r1
theorem TAtL.get' {K:Kd} {H:Hp} {τ : List (List Nat×Addr)} {p:List Nat}:∀ {ts:List PyData} {i j:Nat} {xs:List V} {t:PyData},TAtL K H τ p i ts xs→ts[j]? = some t→∃ v,xs[j]? = some v∧TAt K H τ (p++[i + j]) t v
 | [],_,_,_,_,_,e=>by simp at e
 | t :: ts,i,0,_,_,h,e=>by
  simp only [TAtL] at h
  obtain ⟨v,vs,rfl,h1,_⟩:=h
  simp at e
  subst e
  exact ⟨v,rfl,h1⟩
 | t :: ts,i,j + 1,_,_,h,e=>by
  simp only [TAtL] at h
  obtain ⟨v,vs,rfl,_,h2⟩:=h
  obtain ⟨w,z1,z2⟩:=TAtL.get' h2 (j:=j) (by simpa using e)
  exact ⟨w,by simpa using z1,by rw [show i + (j + 1) = i + 1 + j by omega]; exact z2⟩
theorem TAtL.len {K:Kd} {H:Hp} {τ : List (List Nat×Addr)} {p:List Nat}:∀ {ts:List PyData} {i:Nat} {xs:List V},TAtL K H τ p i ts xs→ts.length = xs.length
 | [],_,_,h=>by simp only [TAtL] at h; subst h; rfl
 | t :: ts,i,_,h=>by
  simp only [TAtL] at h
  obtain ⟨v,vs,rfl,_,h2⟩:=h
  simp [TAtL.len h2]
theorem vW:IxR X (rM X.kx oZ):=by
 rintro value slice pins s σ' H x y v u Q I rx ry ⟨α,m,σ,H0,H1,r1,r2,Kc,Rl,h1,h2,ho,fin⟩ hsub
 obtain ⟨k,p,τ,a,rfl,e1,e2,rfl,ho⟩:=uq h1 ho
 obtain ⟨i,rfl,rfl,t,ts,j,t',e3,e4,e5,e6,ho⟩:=k8 h2 ho
 obtain ⟨ys,q,g⟩:=Rl.listN e1 e2 e3 e4
 obtain ⟨w,z1,z2⟩:=g.get' e6
 rw [Nat.zero_add] at z2
 refine t7 value slice pins s σ' H _ _ v u Q I rx ry ⟨a,ys,i,w,rfl,rfl,SqL.of q,?_,fin _ _ H ho Rl (fQ Rl e1 z2) (Frm.refl _ _)⟩ hsub
 unfold atI
 rw [←g.len,e5]
 exact z1
theorem D5 {a b:Expr} {wa wb:WE} {pos:Pos} (ha:ME X a wa) (hb:ME X b wb) (hs:iB b:=by intro _ _; rfl):ME X (.Subscript a b pos) (wBin oZ wa wb):=(Ir vW ha hb hs).wk fun _ _ _ h=>lg h
end
theorem xQ {H H':Hp} (old:∀ b o,H b = some o→H' b = some o):Pers H H':=⟨fun b xs q=>old b _ q,fun b o u q=>old b _ q⟩
section
variable {K:Kd} {H:Hp} {τ τ':List (List Nat×Addr)} {w:List Nat}
mutual
theorem TAt.shift (e:∀ q a,τ.lookup q = some a→τ'.lookup (w++q) = some a):∀ {t:PyData} {p:List Nat} {v:V},TAt K H τ p t v→TAt K H τ' (w++p) t v
 | .none,_,_,h=>by simp only [TAt] at h ⊢; exact h
 | .bool _,_,_,h=>by simp only [TAt] at h ⊢; exact h
 | .int _,_,_,h=>by simp only [TAt] at h ⊢; exact h
 | .str _,_,_,h=>by simp only [TAt] at h ⊢; exact h
 | .tuple _,_,_,h=>by simp only [TAt] at h ⊢; exact h
 | .list ts,p,_,h=>by
  simp only [TAt] at h ⊢
  obtain ⟨a,xs,e1,e2,e3,g⟩:=h
  exact ⟨a,xs,e _ _ e1,e2,e3,TAtL.shift e g⟩
 | .dict kvs,p,_,h=>by
  simp only [TAt] at h ⊢
  rcases h with ⟨d,e1,h⟩ | ⟨z1,z2,a,es,e1,e2,e3,k,g⟩ | ⟨z1,z2,a,es,e1,e2,e3,g⟩ | ⟨c,a,dx,C,xs,e0,e1,e2,e3,k,g⟩
  ·exact .inl ⟨d,e1,h⟩
  ·exact .inr (.inl ⟨z1,z2,a,es,e _ _ e1,e2,e3,k,TAtD.shift e g⟩)
  ·exact .inr (.inr (.inl ⟨z1,z2,a,es,e _ _ e1,e2,e3,TAtK.shift e g⟩))
  ·exact .inr (.inr (.inr ⟨c,a,dx,C,xs,e0,e _ _ e1,e2,e3,k,TAtF.shift e g⟩))
theorem TAtL.shift (e:∀ q a,τ.lookup q = some a→τ'.lookup (w++q) = some a):∀ {ts:List PyData} {p:List Nat} {i:Nat} {xs:List V},TAtL K H τ p i ts xs→TAtL K H τ' (w++p) i ts xs
 | [],_,_,_,h=>by simpa only [TAtL] using h
 | t :: ts,p,i,_,h=>by
  simp only [TAtL] at h ⊢
  obtain ⟨v,vs,e1,g1,g2⟩:=h
  exact ⟨v,vs,e1,by rw [List.append_assoc]; exact TAt.shift e g1,TAtL.shift e g2⟩
theorem TAtD.shift (e:∀ q a,τ.lookup q = some a→τ'.lookup (w++q) = some a):∀ {ts:List (PyData×PyData)} {p:List Nat} {i:Nat} {xs:List (Int×V×V)},TAtD K H τ p i ts xs→TAtD K H τ' (w++p) i ts xs
 | [],_,_,_,h=>by simpa only [TAtD] using h
 | (k,t) :: ts,p,i,_,h=>by
  simp only [TAtD] at h ⊢
  obtain ⟨u,v,vs,e1,g0,g1,g2⟩:=h
  exact ⟨u,v,vs,e1,g0,by rw [List.append_assoc]; exact TAt.shift e g1,TAtD.shift e g2⟩
theorem TAtK.shift (e:∀ q a,τ.lookup q = some a→τ'.lookup (w++q) = some a):∀ {ts:List (PyData×PyData)} {p:List Nat} {i:Nat} {xs:List (Key×V)},TAtK K H τ p i ts xs→TAtK K H τ' (w++p) i ts xs
 | [],_,_,_,h=>by simpa only [TAtK] using h
 | (k,t) :: ts,p,i,_,h=>by
  simp only [TAtK] at h ⊢
  obtain ⟨u,v,vs,e1,g0,g1,g2⟩:=h
  exact ⟨u,v,vs,e1,g0,by rw [List.append_assoc]; exact TAt.shift e g1,TAtK.shift e g2⟩
theorem TAtF.shift (e:∀ q a,τ.lookup q = some a→τ'.lookup (w++q) = some a):∀ {ts:List (PyData×PyData)} {p:List Nat} {i:Nat} {xs:List (Str×V)},TAtF K H τ p i ts xs→TAtF K H τ' (w++p) i ts xs
 | [],_,_,_,h=>by simpa only [TAtF] using h
 | (.str f,t) :: ts,p,i,_,h=>by
  simp only [TAtF] at h ⊢
  obtain ⟨v,vs,e1,g1,g2⟩:=h
  exact ⟨v,vs,e1,by rw [List.append_assoc]; exact TAt.shift e g1,TAtF.shift e g2⟩
 | (.none,d) :: r,_,_,_,h=>by simp only [TAtF] at h ⊢; exact TAtF.shift e h
 | (.bool _,d) :: r,_,_,_,h=>by simp only [TAtF] at h
 | (.int _,d) :: r,_,_,_,h=>by simp only [TAtF] at h
 | (.list _,d) :: r,_,_,_,h=>by simp only [TAtF] at h
 | (.tuple _,d) :: r,_,_,_,h=>by simp only [TAtF] at h
 | (.dict _,d) :: r,_,_,_,h=>by simp only [TAtF] at h
end
end
def trR:R→Option PyData
 | .imm d=>some (lfD d)
 | .new ds=>some (.list (ds.map lfD))
 | .newT t=>some t
 | _=>none
def allA:List (List (List Nat×Addr))→List Addr
 | []=>[]
 | τ :: τs=>τ.map (·.2)++allA τs
theorem FV {K:Kd} {α : Al} {Hb H:Hp} {r:R} {v:V} (h:RelR K α Hb H r v):∃ τ : List (List Nat×Addr),(∀ t,trR r = some t→TAt K H τ [] t v)∧(τ.map (·.2)).Nodup∧(∀ a∈τ.map (·.2),∃ o,H a = some o∧Mu o = true)∧∀ a∈τ.map (·.2),Hb a = none:=by
 cases r with
 | imm d=>exact ⟨[],fun t e=>(by cases e; exact kZ h),List.nodup_nil,fun _ z=>(by simp at z),fun _ z=>(by simp at z)⟩
 | new ds =>
  obtain ⟨a,xs,rfl,n,q,g⟩:=h
  refine ⟨[([],a)],fun t e=>?_,by simp,fun b z=>?_,fun b z=>?_⟩
  ·cases e
   simp only [TAt]
   exact ⟨a,xs,rfl,rfl,q,gh g⟩
  ·simp at z; subst z; exact ⟨_,q,rfl⟩
  ·simp at z; subst z; exact n
 | newT t =>
  obtain ⟨τ,a,rfl,e1,nd,n,⟨t1,v0,z,g,a0,e2,e3⟩,mu⟩:=h
  cases z
  rw [e1] at e2; cases e2
  subst e3
  exact ⟨τ,fun t e=>(by cases e; exact g),nd,mu,n⟩
 | obj _=>exact ⟨[],fun t e=>(by cases e),List.nodup_nil,fun _ z=>(by simp at z),fun _ z=>(by simp at z)⟩
 | «at» _ _=>exact ⟨[],fun t e=>(by cases e),List.nodup_nil,fun _ z=>(by simp at z),fun _ z=>(by simp at z)⟩
def gZ (i:Nat):List (List (List Nat×Addr))→List (List Nat×Addr)
 | []=>[]
 | τ :: τs=>τ.map (fun qa=>(i :: qa.1,qa.2))++gZ (i + 1) τs
theorem c5:∀ (i:Nat) (τs:List (List (List Nat×Addr))),(gZ i τs).map (·.2) = allA τs
 | _,[]=>rfl
 | i,τ :: τs=>by rw [gZ,List.map_append,c5,List.map_map]; rfl
theorem oX {i:Nat} {q:List Nat}:∀ τ : List (List Nat×Addr),(τ.map fun qa=>(i :: qa.1,qa.2)).lookup (i :: q) = τ.lookup q
 | []=>rfl
 | (r,b) :: τ=>by
  rw [List.map_cons,List.lookup_cons,List.lookup_cons,oX τ]
  have:((i :: q) == (i :: r)) = (q == r):=by simp
  rw [this]
theorem iY {i j:Nat} {q:List Nat} (h:j≠i):∀ τ : List (List Nat×Addr),(τ.map fun qa=>(i :: qa.1,qa.2)).lookup (j :: q) = none
 | []=>rfl
 | (r,b) :: τ=>by
  rw [List.map_cons,List.lookup_cons,iY h τ]
  have:((j :: q) == (i :: r)) = false:=by simp [h]
  rw [this]
theorem ox {β γ : Type} [BEq β] {a b:List (β×γ)} {k : β}:(a++b).lookup k = (a.lookup k).or (b.lookup k):=by
 induction a with
 | nil=>simp
 | cons x a ih =>
  obtain ⟨k',v⟩:=x
  rw [List.cons_append,List.lookup_cons,List.lookup_cons,ih]
  split <;> simp
theorem jM:∀ {τs:List (List (List Nat×Addr))} {i j:Nat} {τ : List (List Nat×Addr)} {q:List Nat} {a:Addr},τs[j]? = some τ→τ.lookup q = some a→(gZ i τs).lookup ((i + j) :: q) = some a
 | [],_,_,_,_,_,e,_=>by simp at e
 | τ0 :: τs,i,0,τ,q,a,e,h=>by
  simp at e
  subst e
  rw [gZ,ox,Nat.add_zero,oX,h]; rfl
 | τ0 :: τs,i,j + 1,τ,q,a,e,h=>by
  rw [gZ,ox,iY (by omega)]
  have:=jM (i:=i + 1) (j:=j) (τs:=τs) (by simpa using e) h
  rw [show i + 1 + j = i + (j + 1) by omega] at this
  rw [this]; rfl
section
variable {X:Cx} {scope sc:Scope} {own fr:List Str} {ps:List Nat} {elt iter o:Expr} {ifs:List Expr} {pos np lpos spos py apos cpos:Pos} {tt:WT} {we wo:WE} {wi:WI} {x y:Str} {i:Nat}
theorem Cp {a b:Expr} {wa wb:WE} {pos:Pos} (ha:EE X a wa) (hb:EE X b wb) (hs:iB b:=by intro _ _; rfl):EE X (.Subscript a b pos) (wBin oZ wa wb):=⟨D5 ha.h hb.h hs⟩
end
theorem iU {X:Cx}:MtM X "list.append" (mM X.kx kq):=pC
section
variable {m:MSt} {Q:R→MSt→Prop} {wo we:WE} {wi:WI} {tt:WT} {own:List Str} {ps:List Nat}
theorem ls {k:Nat} {p:List Nat} {t d:PyData} {ts ds:List PyData} (e1:m.os[k]? = some [t]) (e2:getT t p = some (.list ts)) (e3:ce ts = some ds) (e4:okW t p = true) (hz:ds.length < sizeLine) (h:Q (.imm .none) { m with os:=m.os.set k [setT t p (.list ((ds++[d]).map lfD))] }):kq (.at k p) [.imm d] m Q:=⟨t,ts,ds,e1,e2,e3,e4,hz,h⟩
theorem Cg {k:Nat} {p:List Nat} {t t':PyData} {ts:List PyData} {i:Int} {j:Nat} {Kr:R→Prop} (e1:m.os[k]? = some [t]) (e2:getT t p = some (.list ts)) (e3:ixN ts.length i = some j) (e4:ts[j]? = some t') (h:Kr (fj k p j t')):oZ (.at k p) (.imm (.int i)) m Kr:=⟨t,ts,j,t',e1,e2,e3,e4,h⟩
end
def onTr (P:PyData→Prop) (r:R):Prop:=match trR r with
 | some t=>P t
 | none=>False
def fdAt (f:Str):Nat→List (PyData×PyData)→Option (Nat×PyData)
 | _,[]=>none
 | i,(.str g,t) :: r=>if decide (g = f) = true then some (i,t) else fdAt f (i + 1) r
 | i,(.none,_) :: r=>fdAt f (i + 1) r
 | i,(.bool _,_) :: r=>fdAt f (i + 1) r
 | i,(.int _,_) :: r=>fdAt f (i + 1) r
 | i,(.list _,_) :: r=>fdAt f (i + 1) r
 | i,(.tuple _,_) :: r=>fdAt f (i + 1) r
 | i,(.dict _,_) :: r=>fdAt f (i + 1) r
section
variable {K:Kd} {H:Hp} {τ : List (List Nat×Addr)} {p:List Nat} {f:Str}
theorem TAtF.look:∀ {ts:List (PyData×PyData)} {i j:Nat} {xs:List (Str×V)} {t:PyData},TAtF K H τ p i ts xs→fdAt f i ts = some (j,t)→∃ v,xs.lookup f = some v∧TAt K H τ (p++[j]) t v
 | [],_,_,_,_,_,e=>by cases e
 | (.str g,t) :: ts,i,j,xs,t',h,e=>by
  simp only [TAtF] at h
  obtain ⟨v,vs,rfl,g1,g2⟩:=h
  simp only [fdAt] at e
  by_cases c:g = f
  ·rw [if_pos (decide_eq_true c)] at e
   cases e
   subst c
   exact ⟨v,by simp [List.lookup],g1⟩
  ·rw [if_neg (by simpa using c)] at e
   obtain ⟨v',e1,e2⟩:=TAtF.look g2 e
   refine ⟨v',?_,e2⟩
   rw [List.lookup_cons]
   have:(f == g) = false:=by simp only [beq_eq_false_iff_ne,ne_eq]; exact fun z=>c z.symm
   rw [this]; exact e1
 | (.none,d) :: r,i,j,xs,t',h,e=>by simp only [TAtF] at h; simp only [fdAt] at e; exact TAtF.look h e
 | (.bool _,d) :: r,_,_,_,_,h,_=>by simp only [TAtF] at h
 | (.int _,d) :: r,_,_,_,_,h,_=>by simp only [TAtF] at h
 | (.list _,d) :: r,_,_,_,_,h,_=>by simp only [TAtF] at h
 | (.tuple _,d) :: r,_,_,_,_,h,_=>by simp only [TAtF] at h
 | (.dict _,d) :: r,_,_,_,_,h,_=>by simp only [TAtF] at h
theorem TAtF.noF:∀ {ts:List (PyData×PyData)} {i:Nat} {xs:List (Str×V)},TAtF K H τ p i ts xs→fdAt f i ts = none→xs.lookup f = none
 | [],_,_,h,_=>by simp only [TAtF] at h; subst h; rfl
 | (.str g,t) :: ts,i,xs,h,e=>by
  simp only [TAtF] at h
  obtain ⟨v,vs,rfl,g1,g2⟩:=h
  simp only [fdAt] at e
  by_cases c:g = f
  ·rw [if_pos (decide_eq_true c)] at e; cases e
  ·rw [if_neg (by simpa using c)] at e
   rw [List.lookup_cons]
   have:(f == g) = false:=by simp only [beq_eq_false_iff_ne,ne_eq]; exact fun z=>c z.symm
   rw [this]; exact TAtF.noF g2 e
 | (.none,d) :: r,i,xs,h,e=>by simp only [TAtF] at h; simp only [fdAt] at e; exact TAtF.noF h e
 | (.bool _,d) :: r,_,_,h,_=>by simp only [TAtF] at h
 | (.int _,d) :: r,_,_,h,_=>by simp only [TAtF] at h
 | (.list _,d) :: r,_,_,h,_=>by simp only [TAtF] at h
 | (.tuple _,d) :: r,_,_,h,_=>by simp only [TAtF] at h
 | (.dict _,d) :: r,_,_,h,_=>by simp only [TAtF] at h
end
theorem Rel.insN {K:Kx} {α : Al} {m:MSt} {σ : St} {H:Hp} (Rl:Rel K α m σ H) {k:Nat} {p:List Nat} {τ : List (List Nat×Addr)} {a:Addr} {t:PyData} {kvs:List (PyData×PyData)} {c:Str} (e1 : α[k]? = some (.T τ)) (e2 : τ.lookup p = some a) (e3:m.os[k]? = some [t]) (e4:getT t p = some (.dict kvs)) (e5:excC kvs = some c) :
  ∃ dx C xs,H a = some (.ins C dx xs)∧ClsN K c C∧TAtF K H τ p 0 kvs xs:=by
 obtain ⟨⟨t1,v0,z,g,_⟩,_⟩:=Rl.own k (.T τ) _ e1 e3
 cases z
 obtain ⟨v',g'⟩:=g.get e4
 rw [List.nil_append] at g'
 obtain ⟨a',dx,C,xs,ea,_,ed,kc,gk⟩:=g'.ins e5
 rw [e2] at ea; cases ea
 exact ⟨dx,C,xs,ed,kc,gk⟩
structure InsF (K:PySem.W.Frag) (c f:Str):Prop where
 ex:∃ C,PySem.W.nsIn K mainGlobals c = some (some (.ref C))∧Cls K C∧NoAttr K C f
theorem InsF.of {K:PySem.W.Frag} {c f:Str} {C:Addr} (a:PySem.W.nsIn K mainGlobals c = some (some (.ref C))) (b1:PySem.W.plainGet K C Str.empty = true) (b2:PySem.W.hasDictIn K C = true) (b3:PySem.W.plainOver K C = true) (b4:PySem.W.findIn K (.ref C) "__setattr__" = some (some (.builtin "object.__setattr__"))) (d:PySem.W.findIn K (.ref C) f = some none):InsF K c f:=⟨C,a,⟨b1,b2,b3,b4⟩,d⟩
def fGot (m:MSt) (c:Str) (k:Nat) (p:List Nat) (f:Str) (K:R→Prop):Prop:=∃ t kvs j t',m.os[k]? = some [t]∧getT t p = some (.dict kvs)∧excC kvs = some c∧fdAt f 0 kvs = some (j,t')∧K (fj k p j t')
def wFld (c f:Str) (wo:WE):WE:=fun m K=>wo m fun r m1=>onAt (fun k p=>fGot m1 c k p f fun r=>K r m1) r
section
variable {X:Cx} {o:Expr} {wo:WE} {pos:Pos} {c f:Str}
theorem CQ (C:InsF X.K c f) (ho:ME X o wo) (hb:attributeBase o f X.env (eval o X.env) = eval o X.env:=by rfl):ME X (.Attribute o f pos) (wFld c f wo):=(FU ho hb).wk fun σ H Q ⟨α,m,Kc,Rl,hw,fin⟩=>by
 refine ⟨α,m,_,Rl,hw,fun r m1 v H1 q n1 Rl1 rr F1=>?_⟩
 obtain ⟨k,p,τ,a,rfl,e1,e2,rfl,t,kvs,j,t',e3,e4,e5,e6,q⟩:=uq rr q
 obtain ⟨dx,C',xs,hH,hc,g⟩:=Rl1.insN e1 e2 e3 e4 e5
 obtain ⟨C0,hn,cl,na⟩:=C.ex
 have ec:C' = C0:=by
  have:=hc.symm.trans hn
  simpa using this
 subst ec
 obtain ⟨v,ev,gv⟩:=g.look e6
 exact ⟨a,C',dx,xs,v,rfl,hH,cl,na,ev,fin _ m1 v H1 q n1 Rl1 (fQ Rl1 e1 gv) F1⟩
theorem f9 (C:InsF X.K c f) (ho:EE X o wo) (hb:attributeBase o f X.env (eval o X.env) = eval o X.env:=by rfl):EE X (.Attribute o f pos) (wFld c f wo):=⟨CQ C ho.h hb⟩
end
structure jU (P:Program) (w:World) (K:PySem.W.Frag) (mg:Str→Option Value) (base:Heap) (c m:Str) (k n:Nat) (sp:SpM):Prop where
 ex:∃ (C f:Addr) (fd:FuncData) (ps:List Str),FnOk P w K mg base CX0 k f fd ps (spOf ⟨K,w⟩ n sp)∧PySem.W.nsIn K mainGlobals c = some (some (.ref C))∧Cls K C∧Meth K C m f∧Binds K fd ps []
 ar:∀ as Kc,sp as Kc→as.length = n
structure MthD (K:PySem.W.Frag) (c m qual:Str) (st:Stmt) (ps:List Str):Prop where
 ex:∃ (C f:Addr) (fd:FuncData),Fun K m qual st f fd∧PySem.W.nsIn K mainGlobals c = some (some (.ref C))∧Cls K C∧Meth K C m f∧Binds K fd ps []
theorem MthD.of {K:PySem.W.Frag} {c m qual:Str} {st:Stmt} {ps:List Str} {C f:Addr} {oc kV doc pm cdv ct:Value} {od an:Option Addr} {sl:Array (Option Value)} (hb:∀ (kV doc pm:Value) (an:Option Addr) (cdv ct:Value) (us:List Value),us.length = ps.length→bindArgs (PySem.W.fnOf m qual (cg st) (bh st) (ab st) .none kV doc pm an cdv ct) ⟨us,[]⟩ = pure (ps.zip us))
  (a:PySem.W.nsIn K mainGlobals c = some (some (.ref C))) (b1:PySem.W.plainGet K C Str.empty = true) (b2:PySem.W.hasDictIn K C = true) (b3:PySem.W.plainOver K C = true) (b4:PySem.W.findIn K (.ref C) "__setattr__" = some (some (.builtin "object.__setattr__")))
  (d:PySem.W.findIn K (.ref C) m = some (some (.ref f))) (l:K.lookup f = some ⟨oc,od,.func (PySem.W.fnOf m qual (cg st) (bh st) (ab st) .none kV doc pm an cdv ct),sl⟩) (e:PySem.W.codeIn K cdv qual = true) (k:PySem.W.keepIn K (.ref f) = true) (fn:PySem.W.isFn K (.ref f) = true):MthD K c m qual st ps :=
 ⟨C,f,_,lv l e k,a,⟨b1,b2,b3,b4⟩,⟨d,fn,k⟩,(lv l e k).binds hb⟩
theorem qM {P:Program} {w:World} {K:PySem.W.Frag} {mg:Str→Option Value} {base:Heap} {c m qual:Str} {st:Stmt} {N ps:List Str} {n nN k:Nat} {sp:SpM} (D:MthD K c m qual st ps) (S:ak N ps (ab st)) (hn:ps.length = n) (hN:N.length = nN) (hle:n≤nN) (ar:∀ as Kc,sp as Kc→as.length = n)
  (hbody:∀ (cdv:Value) (A:Around) (outer:List Env) (s:Shared) (H:Hp) (E:XK) (f:Addr),Room k (A.deeper (envOfC qual (ab st) s.heap.objs.size f cdv)) →
   ∃ ww,ESs (cxOf CX0 P w K mg base N qual (ab st) f cdv A outer s H E).nox (bh st) ww∧∀ as Kc,as.length = n→sp as Kc→ww { nx:=fun m=>Kc (.imm .none) (m.os.take m.np),rt:=fun r m=>retK Kc m r } (cv nN as)) :
  jU P w K mg base c m (k + 1) n sp:=by
 obtain ⟨C,f,fd,F,a,cl,me,hb⟩:=D.ex
 refine ⟨⟨C,f,fd,ps,F.ok S (fun vs H Q E h=>by rw [hn]; exact h.len) (fun cdv A outer s H vs Q E hr h=>?_),a,cl,me,hb⟩,ar⟩
 obtain ⟨ww,h1,h2⟩:=hbody cdv A outer s H E f hr
 exact ⟨_,h1.h,fn_m (K:=(cxOf CX0 P w K mg base N qual (ab st) f cdv A outer s H E).nox.kx) rfl h hN hle h2⟩
def insR (m:MSt) (c f:Str) (r:R) (P:Prop):Prop:=∃ k kvs,r = .at k []∧m.os[k]? = some [.dict kvs]∧excC kvs = some c∧fdAt f 0 kvs = none∧P
def Cj (P:List Ag→List Nat→Prop) (o:Option (List Ag×List Nat)):Prop:=∃ as ks,o = some (as,ks)∧P as ks
def qo (c f:Str) (sp:SpM) (wo:WE) (ws:WA):WE:=fun m K=>wo m fun ro m1=>insR m1 c f ro (ws m1 fun rs m2=>Cj (fun as ks=>ks.Nodup∧sp as fun r outs=>K (mapR ks r) { m2 with os:=bC m2.os ks outs }) (d4 m2 (ro :: rs)))
section
variable {X:Cx} {o a:Expr} {es:List Expr} {wo:WE} {ws:WA} {pos apos:Pos} {c f:Str} {k n:Nat} {sp:SpM} {E:XK} {σ : St} {H:Hp} {Q:VK} {C:Addr}
theorem u7 (h:tM X.kx (qo c f sp wo ws) σ H Q) (hC:PySem.W.nsIn X.K mainGlobals c = some (some (.ref C))) (hn:∀ as Kc,sp as Kc→as.length = n):BJ C f (spOf X.kd n sp) [] E (tM X.kx wo) (tMA X.kx ws) σ H Q:=by
 obtain ⟨α,m,Kc,Rl,hw,fin⟩:=h
 refine ⟨α,m,_,Rl,hw,fun ro m1 v H1 q n1 Rl1 rr F1=>?_⟩
 obtain ⟨k0,kvs,rfl,e3,e5,e6,q⟩:=q
 obtain ⟨τ,a,e1,e2,rfl⟩:=id rr
 obtain ⟨dx,C',xs,hH,hc,g⟩:=Rl1.insN e1 e2 e3 (p:=[]) rfl e5
 have ec:C' = C:=by
  have:=hc.symm.trans hC
  simpa using this
 subst ec
 refine ⟨a,dx,xs,rfl,hH,g.noF e6,α,m1,_,Rl1,q,fun rs m2 vs H2 q2 n2 Rl2 rr2 F2=>?_⟩
 ·obtain ⟨as,ks,e,nd,hsp⟩:=q2
  have rr0:RelRs X.kx α H (H2) (.at k0 [] :: rs) (.ref a :: vs):=.cons (show RelR X.kx α H H2 (.at k0 []) (.ref a) from ⟨τ,a,e1,e2,rfl⟩) (rr2.base Rl1 F1)
  obtain ⟨β,ra,pa⟩:=dr Rl2 rr0 e
  refine ⟨as,β,_,hn _ _ hsp,dH Rl2.nd nd pa,by rw [List.append_nil]; exact ra,hsp,fun r outs v H' kk2 O rr3 F=>?_⟩
  obtain ⟨Rl3,F3⟩:=oo Rl2 nd pa O F
  exact fin _ _ v H' kk2 (n2.trans n1) Rl3 ((pq pa rr3).base Rl2 (F1.trans F2)) ((F1.trans F2).trans F3)
theorem zy {pl:Sem Bool} (F:jU X.prog X.w X.K X.mg X.base c f k n sp) (hr:Room k X.A) (ho:ME X o wo) (ha:MA X (a :: es) ws)
  (hst:starEach (a :: es) X.env = (false,eval a X.env) :: starEach es X.env:=by first | exact aD rfl | rfl) (hpl:(backTo pos (starEach es X.env)).any (·.1) = false:=by rfl)
  (ht:eval (.Call (.Attribute o f apos) (a :: es) [] pos) X.env = (do
   let ov ← eval o X.env
   standAt apos.atName
   let (f,first) ← holding [ov] (getMethod ov f pl)
   callWith pos f first (backTo pos (starEach (a :: es) X.env)) (backToKw pos (keywordEach [] X.env))):=by rfl):ME X (.Call (.Attribute o f apos) (a :: es) [] pos) (qo c f sp wo ws):=by
 obtain ⟨C,g,fd,ps,G,hC,cl,me,hb⟩:=F.ex
 exact (Ak (E:=E0) (pl:=pl) ho cl me G hr hb .nil wm ha hst hpl ht).wk fun _ _ _ h=>u7 h hC F.ar
theorem v5 {pl:Sem Bool} (F:jU X.prog X.w X.K X.mg X.base c f k n sp) (hr:Room k X.A) (ho:ME X o wo)
  (ht:eval (.Call (.Attribute o f apos) [] [] pos) X.env = (do
   let ov ← eval o X.env
   standAt apos.atName
   let (f,first) ← holding [ov] (getMethod ov f pl)
   callWith pos f first (backTo pos (starEach [] X.env)) (backToKw pos (keywordEach [] X.env))):=by rfl):ME X (.Call (.Attribute o f apos) [] [] pos) (qo c f sp wo wNil):=by
 obtain ⟨C,g,fd,ps,G,hC,cl,me,hb⟩:=F.ex
 refine (xo (E:=E0) (pl:=pl) ho cl me G hr hb .nil wm ht).wk fun σ H Q h=>?_
 obtain ⟨α,m,Kc,Rl,hw,fin⟩:=u7 (E:=E0) h hC F.ar
 refine ⟨α,m,Kc,Rl,hw,fun r m1 v H1 q n1 Rl1 rr F1=>?_⟩
 obtain ⟨a,dx,fs,e1,e2,e3,α2,m2,K2,Rl2,hw2,fin2⟩:=fin r m1 v H1 q n1 Rl1 rr F1
 exact ⟨a,dx,fs,e1,e2,e3,fin2 [] m2 [] H1 hw2 rfl Rl2 .nil (Frm.refl _ _)⟩
theorem ya {pl:Sem Bool} (F:jU X.prog X.w X.K X.mg X.base c f k n sp) (hr:Room k X.A) (ho:EE X o wo) (ha:EA X (a :: es) ws)
  (hst:starEach (a :: es) X.env = (false,eval a X.env) :: starEach es X.env:=by first | exact aD rfl | rfl) (hpl:(backTo pos (starEach es X.env)).any (·.1) = false:=by rfl)
  (ht:eval (.Call (.Attribute o f apos) (a :: es) [] pos) X.env = (do
   let ov ← eval o X.env
   standAt apos.atName
   let (f,first) ← holding [ov] (getMethod ov f pl)
   callWith pos f first (backTo pos (starEach (a :: es) X.env)) (backToKw pos (keywordEach [] X.env))):=by rfl):EE X (.Call (.Attribute o f apos) (a :: es) [] pos) (qo c f sp wo ws):=⟨zy (pl:=pl) F hr ho.h ha.h hst hpl ht⟩
theorem uc {pl:Sem Bool} (F:jU X.prog X.w X.K X.mg X.base c f k n sp) (hr:Room k X.A) (ho:EE X o wo)
  (ht:eval (.Call (.Attribute o f apos) [] [] pos) X.env = (do
   let ov ← eval o X.env
   standAt apos.atName
   let (f,first) ← holding [ov] (getMethod ov f pl)
   callWith pos f first (backTo pos (starEach [] X.env)) (backToKw pos (keywordEach [] X.env))):=by rfl):EE X (.Call (.Attribute o f apos) [] [] pos) (qo c f sp wo wNil):=⟨v5 (pl:=pl) F hr ho.h ht⟩
end
inductive FsOk (K:Kd) (H:Hp):List (Str×PyData)→List (Str×V)→List (List (List Nat×Addr))→Prop where
 | nil:FsOk K H [] [] []
 | cons {f:Str} {t:PyData} {v:V} {τ : List (List Nat×Addr)} {ts:List (Str×PyData)} {xs:List (Str×V)} {τs:List (List (List Nat×Addr))}:TAt K H τ [] t v→(∀ a∈τ.map (·.2),∃ o,H a = some o∧Mu o = true)→FsOk K H ts xs τs→FsOk K H ((f,t) :: ts) ((f,v) :: xs) (τ :: τs)
theorem FsOk.snoc {K:Kd} {H:Hp} {f:Str} {t:PyData} {v:V} {τ : List (List Nat×Addr)} (h1:TAt K H τ [] t v) (h2:∀ a∈τ.map (·.2),∃ o,H a = some o∧Mu o = true):∀ {ts:List (Str×PyData)} {xs:List (Str×V)} {τs:List (List (List Nat×Addr))},FsOk K H ts xs τs→FsOk K H (ts++[(f,t)]) (xs++[(f,v)]) (τs++[τ])
 | _,_,_,.nil=>FsOk.cons h1 h2 .nil
 | _,_,_,.cons (f:=g) a b c=>FsOk.cons (f:=g) a b (FsOk.snoc h1 h2 c)
theorem FsOk.mono {K:Kd} {H H':Hp} (pe:Pers H H') {ts:List (Str×PyData)} {xs:List (Str×V)} {τs:List (List (List Nat×Addr))} (h:FsOk K H ts xs τs):(∀ a∈allA τs,H' a = H a)→FsOk K H' ts xs τs:=by
 induction h with
 | nil=>intro _; exact .nil
 | cons a b c ih =>
  intro e
  exact .cons (TAt.mono pe (fun x hx=>e x (List.mem_append_left _ hx)) a) (fun x hx=>by rw [e x (List.mem_append_left _ hx)]; exact b x hx) (ih fun x hx=>e x (List.mem_append_right _ hx))
theorem FsOk.names {K:Kd} {H:Hp}:∀ {ts:List (Str×PyData)} {xs:List (Str×V)} {τs:List (List (List Nat×Addr))},FsOk K H ts xs τs→xs.map (·.1) = ts.map (·.1)
 | _,_,_,.nil=>rfl
 | _,_,_,.cons _ _ c=>by rw [List.map_cons,List.map_cons,c.names]
theorem FsOk.mu {K:Kd} {H:Hp}:∀ {ts:List (Str×PyData)} {xs:List (Str×V)} {τs:List (List (List Nat×Addr))},FsOk K H ts xs τs→∀ a∈allA τs,∃ o,H a = some o∧Mu o = true
 | _,_,_,.nil,a,ha=>by cases ha
 | _,_,_,.cons _ b c,a,ha=>by
  rcases List.mem_append.mp ha with z | z
  ·exact b a z
  ·exact c.mu a z
theorem i7:∀ (τs:List (List (List Nat×Addr))) (τ : List (List Nat×Addr)),allA (τs++[τ]) = allA τs++τ.map (·.2)
 | [],τ=>by simp [allA]
 | σ :: τs,τ=>by rw [List.cons_append,allA,allA,i7 τs,List.append_assoc]
def insT (c:Str) (ts:List (Str×PyData)):PyData:=.dict ((.none,.str c) :: ts.map fun ft=>(.str ft.1,ft.2))
theorem FsOk.at {K:Kd} {H:Hp} {τ':List (List Nat×Addr)} {ts:List (Str×PyData)} {xs:List (Str×V)} {τs:List (List (List Nat×Addr))} (h:FsOk K H ts xs τs):∀ {i:Nat},(∀ (j:Nat) (τ : List (List Nat×Addr)) (q:List Nat) (a:Addr),τs[j]? = some τ→τ.lookup q = some a→τ'.lookup ((i + j) :: q) = some a)→TAtF K H τ' [] i (ts.map fun ft=>(.str ft.1,ft.2)) xs:=by
 induction h with
 | nil=>intro i _; simp only [List.map_nil,TAtF]
 | @cons f t v τ ts xs τs a b c ih =>
  intro i lk
  simp only [List.map_cons,TAtF]
  refine ⟨v,xs,rfl,?_,ih fun j τ q a e1 e2=>?_⟩
  ·have:=TAt.shift (τ':=τ') (w:=[i]) (fun q a e=>lk 0 τ q a rfl e) a
   simpa using this
  ·rw [show i + 1 + j = i + (j + 1) by omega]
   exact lk (j + 1) τ q a (by simpa using e1) e2
theorem oG {f:Str} {v:V}:∀ {xs:List (Str×V)},f∉xs.map (·.1)→putF f v xs = xs++[(f,v)]
 | [],_=>rfl
 | (g,x) :: r,h=>by
  rw [List.map_cons,List.mem_cons,not_or] at h
  rw [show putF f v ((g,x) :: r) = (if g = f then (g,v) :: r else (g,x) :: putF f v r) from rfl,if_neg (fun z=>h.1 z.symm),oG h.2]; rfl
def vH (K:PySem.W.Frag):List (Str×TE)→TS→TS
 | [],w=>w
 | (f,tv) :: r,w=>tSeq (sFld K (tVar 0) tv f) (vH K r w)
def wFs:List (Str×WE)→MSt→(List (Str×PyData)→MSt→Prop)→Prop
 | [],m,K=>K [] m
 | (f,we) :: r,m,K=>we m fun rv m1=>onTr (fun t=>wFs r m1 fun ts m2=>K ((f,t) :: ts) m2) rv
abbrev SpI:=List PyData→(PyData→Prop)→Prop
def iE (n:Nat) (ds:List PyData):MSt:=⟨none :: (ds.map fun d=>some (.imm d))++List.replicate (n - (ds.length + 1)) none,[],0⟩
def zx (c:Str) (nN:Nat) (fs:List (Str×WE)) (w:WS) (ds:List PyData) (Kc:PyData→Prop):Prop :=
 wFs fs (iE nN ds) fun ts _=>w { nx:=fun m=>∃ t,m.os[0]? = some [t]∧Kc t,rt:=fun _ _=>False } (cv nN (.tr (insT c ts) :: ds.map .imm))
def spIn (K:Kd) (c:Str) (n:Nat) (sp:SpI):Sp:=fun vs H Q _=>∃ a C dx ds vals Kc,vs = .ref a :: vals∧ds.length = n∧H a = some (.ins C dx [])∧ClsN K c C∧DenAll K H ds vals∧sp ds Kc ∧
 ∀ t τ H',Kc t→τ.lookup [] = some a→(τ.map (·.2)).Nodup→(∀ b∈τ.map (·.2),b = a∨H b = none)→OwnAt K H' (.T τ) [t]→(∀ b o,H b = some o→b≠a→H' b = some o)→Q .non H'
theorem spIn.len {K:Kd} {c:Str} {n:Nat} {sp:SpI} {vs:List V} {H:Hp} {Q:VK} {E:XK} (h:spIn K c n sp vs H Q E):vs.length = n + 1:=by
 obtain ⟨a,C,dx,ds,vals,Kc,rfl,hl,_,_,hd,_⟩:=h
 rw [List.length_cons,←hd.length,hl]
structure EIn (X:Cx) (c:Str) (body:List Stmt) (fs:List (Str×WE)) (w:WS):Prop where
 h:PSs X body (vH X.K (fs.map fun fw=>(fw.1,tM X.kx fw.2)) (tMS X.kx w))
 all:∀ f∈fs.map (·.1),InsF X.K c f
section
variable {X:Cx} {c f:Str} {body:List Stmt} {fs:List (Str×WE)} {w:WS} {we:WE} {e:Expr} {p1 p2 pos:Pos}
theorem Bq:EIn X c [] [] xO:=⟨uk,fun _ z=>by cases z⟩
theorem j9 (I:InsF X.K c f) (he:EE X e we) (hr:EIn X c body fs w) (hN:X.N[0]? = some ("self" : Str):=by rfl) (hv:Vis X.env.scope "self" := by first | exact Or.inl rfl | exact Or.inr (Or.inl rfl) | exact Or.inr (Or.inr rfl)) (hs:swapsWith e (some (.Attribute (.Name "self" p1) f p2)) pos.line X.env = pure false:=by rfl):EIn X c (.Assign [.Attribute (.Name "self" p1) f p2] e pos :: body) ((f,we) :: fs) w :=
 ⟨pi (Dw (yT (i:=0) hN hv) he.h hs) hr.h,fun g hg=>by
  rcases List.mem_cons.mp hg with rfl | hg
  ·exact I
  ·exact hr.all g hg⟩
end
theorem zK {K:Kx} {m:MSt} {σ : St} {H H':Hp} (he:K.eb = ⟨0,[],fun _=>none⟩) (pe:Pers H H') (R:Rel K [] m σ H):Rel K [] m σ H':=by
 refine ⟨R.nd,R.len,fun k ao ds z=>by simp at z,R.vlen,fun i r z=>?_,R.npl,R.ebl,by rw [he]; exact ⟨rfl,fun _ _ z=>(by cases z),fun _ _=>.inr rfl,fun a ha=>(by cases ha)⟩⟩
 obtain ⟨v,ev,rv⟩:=R.var i r z
 refine ⟨v,ev,?_⟩
 cases r with
 | imm d=>exact Den.mono pe rv
 | obj k=>obtain ⟨a,ea,_⟩:=rv; simp at ea
 | «at» k p=>obtain ⟨τ,a,ea,_⟩:=rv; simp at ea
 | new ds=>exact rv
 | newT t=>exact rv
theorem jw {K:Kd} {H:Hp}:∀ {ds:List PyData} {vs:List V},DenAll K H ds vs→RelAs K H (ds.map .imm) vs []
 | [],_,h=>by simp only [DenAll] at h; subst h; exact .nil
 | d :: ds,_,h=>by
  simp only [DenAll] at h
  obtain ⟨v,vs,rfl,f,g⟩:=h
  exact .imm f (jw g)
theorem oQ:∀ ds:List PyData,agO (ds.map .imm) = []
 | []=>rfl
 | d :: ds=>by simp only [List.map_cons,agO,oQ ds]
theorem Iy {X:Cx} {c:Str} {n nN:Nat} {N:List Str} {sp:SpI} {fs:List (Str×WE)} {w:WS} {vs:List V} {H:Hp} {Q:VK} {E:XK} (he:X.kx.eb = ⟨0,[],fun _=>none⟩) (hN:N.length = nN) (hle:n + 1≤nN) (all:∀ f∈fs.map (·.1),InsF X.K c f) (nd:(fs.map (·.1)).Nodup) (h9:fs.length < 900)
  (h:spIn X.kd c n sp vs H Q E) (hw:∀ ds Kc,ds.length = n→sp ds Kc→zx c nN fs w ds Kc):vH X.K (fs.map fun fw=>(fw.1,tM X.kx fw.2)) (tMS X.kx w) { nx:=fun _ H'=>Q .non H',rt:=Q } (start N vs) H:=by
 obtain ⟨a,C,dx,ds,vals,Kc,rfl,hl,ha,hc,hd,hsp,fin⟩:=h
 have hw0:=hw ds Kc hl hsp
 have hvl:ds.length = vals.length:=hd.length
 have σ0:(start N (.ref a :: vals))[0]? = some (some (.ref a)):=rfl
 have R0:Rel X.kx [] (iE nN ds) (start N (.ref a :: vals)) H:=by
  refine ⟨List.nodup_nil,rfl,fun k ao es z=>by simp at z,?_,fun i r z=>?_,Nat.le_refl _,by rw [he]; exact Nat.le_refl _,by rw [he]; exact ⟨rfl,fun _ _ z=>(by cases z),fun _ _=>.inr rfl,fun a ha=>(by cases ha)⟩⟩
  ·simp [start,iE]; omega
  ·cases i with
   | zero=>simp [iE] at z
   | succ i =>
    have z':((ds.map fun d=>some (R.imm d))++List.replicate (nN - (ds.length + 1)) none)[i]? = some (some r):=by simpa [iE] using z
    by_cases hi:i < ds.length
    ·rw [List.getElem?_append_left (by rw [List.length_map]; exact hi),List.getElem?_map] at z'
     cases q:ds[i]? with
     | none=>rw [q] at z'; cases z'
     | some d =>
      rw [q] at z'
      cases z'
      obtain ⟨v,ev,gv⟩:=hd.get q
      refine ⟨v,?_,gv⟩
      show (some (V.ref a) :: vals.map some++List.replicate (N.length - (vals.length + 1)) none)[i + 1]? = _
      rw [List.cons_append,List.getElem?_cons_succ,List.getElem?_append_left (by rw [List.length_map]; omega),List.getElem?_map,ev]; rfl
    ·rw [List.getElem?_append_right (by rw [List.length_map]; omega),List.getElem?_replicate] at z'
     split at z' <;> cases z'
 have go:∀ (gs:List (Str×WE)) (m:MSt) (Hc:Hp) (done:List (Str×PyData)) (xs:List (Str×V)) (τs:List (List (List Nat×Addr))),(∀ f∈gs.map (·.1),InsF X.K c f)→(done.map (·.1)++gs.map (·.1)).Nodup→done.length + gs.length < 900 →
   Rel X.kx [] m (start N (.ref a :: vals)) Hc→Hc a = some (.ins C dx xs)→FsOk X.kd Hc done xs τs→(allA τs).Nodup→(∀ b∈allA τs,H b = none)→(∀ b o,H b = some o→b≠a→Hc b = some o) →
   wFs gs m (fun ts _=>w { nx:=fun m=>∃ t,m.os[0]? = some [t]∧Kc t,rt:=fun _ _=>False } (cv nN (.tr (insT c (done++ts)) :: ds.map .imm))) →
   vH X.K (gs.map fun fw=>(fw.1,tM X.kx fw.2)) (tMS X.kx w) { nx:=fun _ H'=>Q .non H',rt:=Q } (start N (.ref a :: vals)) Hc:=by
  intro gs
  induction gs with
  | nil =>
   intro m Hc done xs τs _ _ _ Rl hHa fo nda fr old hk
   have hk':w { nx:=fun m=>∃ t,m.os[0]? = some [t]∧Kc t,rt:=fun _ _=>False } (cv nN (.tr (insT c done) :: ds.map .imm)):=by
    have hk2:w { nx:=fun m=>∃ t,m.os[0]? = some [t]∧Kc t,rt:=fun _ _=>False } (cv nN (.tr (insT c (done++[])) :: ds.map .imm)):=hk
    rwa [List.append_nil] at hk2
   have an:a∉allA τs:=fun z=>by have:=fr a z; rw [ha] at this; cases this
   have pe:Pers H Hc:=⟨fun b xs e=>old b _ e fun z=>(by rw [z,ha] at e; cases e),fun b o u e=>old b _ e fun z=>(by rw [z,ha] at e; cases e)⟩
   have ow:OwnAt X.kx Hc (.T (([],a) :: gZ 1 τs)) [insT c done]:=by
    refine ⟨⟨_,.ref a,rfl,?_,a,rfl,rfl⟩,fun b hb=>?_⟩
    ·unfold insT
     simp only [TAt]
     refine .inr (.inr (.inr ⟨c,a,dx,C,xs,rfl,rfl,rfl,hHa,hc,?_⟩))
     simp only [TAtF]
     refine fo.at fun j τ q b e1 e2=>?_
     rw [List.lookup_cons]
     have:(((0 + 1 + j) :: q) == ([]:List Nat)) = false:=rfl
     rw [this]
     exact jM (i:=1) e1 e2
    ·rw [List.map_cons,c5] at hb
     obtain rfl | hb:=List.mem_cons.mp hb
     ·exact ⟨_,hHa,rfl⟩
     ·exact fo.mu b hb
   have ra:RelAs X.kx Hc (.tr (insT c done) :: ds.map .imm) (.ref a :: vals) [.T (([],a) :: gZ 1 τs)]:=.tr ow rfl (jw (hd.mono pe))
   have ndβ : (ads [Ao.T (([],a) :: gZ 1 τs)]).Nodup:=by
    have:ads [Ao.T (([],a) :: gZ 1 τs)] = a :: allA τs:=by simp [ads,Ao.ads,c5]
    rw [this,List.nodup_cons]
    exact ⟨an,nda⟩
   have agl:(agO (.tr (insT c done) :: ds.map .imm)).length = 1:=by simp only [agO,oQ,List.length_cons,List.length_nil]
   have R1:=md (K:=X.kx) (N:=N) (n:=n + 1) hN hle (by simp [hl]) ndβ ra (by rw [he]; exact Nat.zero_le _) (by rw [he]; exact ⟨rfl,fun _ _ z=>(by cases z),fun _ _=>.inr rfl,fun a ha=>(by cases ha)⟩)
   refine ⟨_,_,_,R1,hk',⟨fun α' m' σ' H' q hn R' x=>?_,fun r α' m' σ' v H' q _ _ _ _=>q.elim,fun _ _ _ _ z=>z.elim,fun _ _ _ _ z=>z.elim⟩⟩
   obtain ⟨O,F,_⟩:=k6 ra hn R' x
   obtain ⟨t,et,kt⟩:=q
   have hn1:m'.np = 1:=hn.trans agl
   refine fin t (([],a) :: gZ 1 τs) H' kt rfl (by rw [List.map_cons,c5,List.nodup_cons]; exact ⟨an,nda⟩) (fun b hb=>?_) (O.at_ 0 _ _ rfl (by rw [hn1,List.getElem?_take,if_pos (by decide)]; exact et)) fun b o eb nb=>?_
   ·rw [List.map_cons,c5] at hb
    obtain rfl | hb:=List.mem_cons.mp hb
    ·exact .inl rfl
    ·exact .inr (fr b hb)
   ·refine F b o (old b o eb nb) fun z=>?_
    have:ads [Ao.T (([],a) :: gZ 1 τs)] = a :: allA τs:=by simp [ads,Ao.ads,c5]
    rw [this] at z
    rcases List.mem_cons.mp z with z | z
    ·exact nb z
    ·rw [fr b z] at eb; cases eb
  | cons g gs ih =>
   obtain ⟨f,we⟩:=g
   intro m Hc done xs τs al nd9 hz Rl hHa fo nda fr old hk
   refine ⟨[],m,_,Rl,hk,fun r m1 v H1 q n1 Rl1 rr F1=>?_⟩
   unfold onTr at q
   cases et:trR r with
   | none=>rw [et] at q; exact q.elim
   | some t =>
    rw [et] at q
    obtain ⟨τ,t1,t2,t3,t4⟩:=FV rr
    have up:∀ b o,Hc b = some o→H1 b = some o:=fun b o e=>F1 b o e (by simp [ads])
    have hH1:=up a _ hHa
    obtain ⟨C0,hn,cl,na⟩:=(al f (by simp)).ex
    have ec:C = C0:=by
     have:=hc.symm.trans hn
     simpa using this
    subst ec
    have fn:f∉xs.map (·.1):=by
     rw [fo.names]
     intro z
     rw [List.map_cons,List.nodup_append] at nd9
     exact nd9.2.2 f z f List.mem_cons_self rfl
    have xl:xs.length = done.length:=by have:=congrArg List.length fo.names; simpa using this
    refine ⟨.ref a,σ0,a,C,dx,xs,rfl,hH1,cl,na,by rw [xl]; omega,?_⟩
    rw [oG fn]
    have pe1:Pers H1 (upd H1 a (.ins C dx (xs++[(f,v)]))):=aZ (.inr ⟨_,hH1,rfl⟩)
    have pec:Pers Hc H1:=⟨fun b xs e=>up b _ e,fun b o u e=>up b _ e⟩
    have an:a∉allA τs:=fun z=>by have:=fr a z; rw [ha] at this; cases this
    have anτ : a∉τ.map (·.2):=fun z=>by have:=t4 a z; rw [hHa] at this; cases this
    have old0:∀ b,Hc b = none→H b = none:=fun b q=>by
     cases z:H b with
     | none=>rfl
     | some o =>
      have ne:b≠a:=fun y=>by rw [y,hHa] at q; cases q
      have:=old b o z ne
      rw [q] at this; cases this
    refine ih m1 _ (done++[(f,t)]) (xs++[(f,v)]) (τs++[τ]) (fun g hg=>al g (List.mem_cons_of_mem _ hg)) ?_ ?_ (zK he pe1 Rl1) aC ?_ ?_ ?_ ?_ ?_
    ·rw [List.map_append,List.append_assoc]; exact nd9
    ·rw [List.length_append]
     simp at hz ⊢
     omega
    ·refine FsOk.snoc (TAt.mono pe1 (fun b hb=>av (fun (z:b = a)=>anτ (z▸hb))) (t1 t et)) (fun b hb=>by rw [av (fun (z:b = a)=>anτ (z▸hb))]; exact t3 b hb) ?_
     refine FsOk.mono (pec.trans pe1) fo (fun b hb=>?_)
     rw [av (fun (z:b = a)=>an (z▸hb))]
     obtain ⟨o,q,_⟩:=fo.mu b hb
     rw [q]; exact up b o q
    ·rw [i7,List.nodup_append]
     refine ⟨nda,t2,fun b hb b' hb' z=>?_⟩
     subst z
     obtain ⟨o,q,_⟩:=fo.mu b hb
     rw [t4 b hb'] at q; cases q
    ·intro b hb
     rw [i7] at hb
     rcases List.mem_append.mp hb with z | z
     ·exact fr b z
     ·exact old0 b (t4 b z)
    ·intro b o eb nb
     rw [av nb]
     exact up b o (old b o eb nb)
    ·have:=q
     simp only [List.append_assoc,List.cons_append,List.nil_append] at this ⊢
     exact this
 exact go fs (iE nN ds) H [] [] [] all (by simpa using nd) (by simpa using h9) R0 ha .nil List.nodup_nil (fun _ z=>by cases z) (fun _ _ e _=>e) hw0
structure uH (P:Program) (w:World) (K:PySem.W.Frag) (mg:Str→Option Value) (base:Heap) (c:Str) (k n:Nat) (sp:SpI):Prop where
 ex:∃ (C f:Addr) (fd:FuncData) (ps:List Str),Mk K C f∧FnOk P w K mg base CX0 k f fd ps (spIn ⟨K,w⟩ c n sp)∧PySem.W.nsIn K mainGlobals c = some (some (.ref C))∧mg c = some (.ref C)∧Binds K fd ps []
 ar:∀ ds Kc,sp ds Kc→ds.length = n
structure IniD (K:PySem.W.Frag) (mg:Str→Option Value) (c qual:Str) (st:Stmt) (ps:List Str):Prop where
 ex:∃ (C f:Addr) (fd:FuncData),Fun K "__init__" qual st f fd∧Mk K C f∧PySem.W.nsIn K mainGlobals c = some (some (.ref C))∧mg c = some (.ref C)∧Binds K fd ps []
structure IniDK (K:PySem.W.Frag) (c qual:Str) (st:Stmt) (ps:List Str):Prop where
 ex:∃ (C f:Addr) (fd:FuncData),Fun K "__init__" qual st f fd∧Mk K C f∧PySem.W.nsIn K mainGlobals c = some (some (.ref C))∧Binds K fd ps []
theorem IniDK.of {K:PySem.W.Frag} {c qual:Str} {st:Stmt} {ps:List Str} {C f:Addr} {oc kV doc pm cdv ct:Value} {od an:Option Addr} {sl:Array (Option Value)} (hb:∀ (kV doc pm:Value) (an:Option Addr) (cdv ct:Value) (us:List Value),us.length = ps.length→bindArgs (PySem.W.fnOf "__init__" qual (cg st) (bh st) (ab st) .none kV doc pm an cdv ct) ⟨us,[]⟩ = pure (ps.zip us))
  (a:PySem.W.nsIn K mainGlobals c = some (some (.ref C))) (d:PySem.W.findIn K (.ref C) "__init__" = some (some (.ref f))) (l:K.lookup f = some ⟨oc,od,.func (PySem.W.fnOf "__init__" qual (cg st) (bh st) (ab st) .none kV doc pm an cdv ct),sl⟩) (e:PySem.W.codeIn K cdv qual = true) (k:PySem.W.keepIn K (.ref f) = true) (fn:PySem.W.isFn K (.ref f) = true) (m:PySem.W.makesIn K C = true) (kc:PySem.W.keepIn K (.ref C) = true):IniDK K c qual st ps :=
 ⟨C,f,_,lv l e k,⟨m,d,fn,kc⟩,a,(lv l e k).binds hb⟩
theorem IniDK.m {K:PySem.W.Frag} {mg:Str→Option Value} {h:Heap} {c qual:Str} {st:Stmt} {ps:List Str} (D:IniDK K c qual st ps) (X:K.In h) (G:h.Ns mainGlobals mg):IniD K mg c qual st ps:=by
 obtain ⟨C,f,fd,F,M,a,b⟩:=D.ex
 exact ⟨C,f,fd,F,M,a,PySem.W.mg_of X G a,b⟩
theorem Az {P:Program} {w:World} {K:PySem.W.Frag} {mg:Str→Option Value} {base:Heap} {c qual:Str} {st:Stmt} {N ps:List Str} {n nN k:Nat} {sp:SpI} (D:IniD K mg c qual st ps) (S:ak N ps (ab st)) (hn:ps.length = n + 1) (hN:N.length = nN) (hle:n + 1≤nN) (ar:∀ ds Kc,sp ds Kc→ds.length = n)
  (hbody:∀ (cdv:Value) (A:Around) (outer:List Env) (s:Shared) (H:Hp) (E:XK) (f:Addr),Room k (A.deeper (envOfC qual (ab st) s.heap.objs.size f cdv)) →
   ∃ fs ww,EIn (cxOf CX0 P w K mg base N qual (ab st) f cdv A outer s H E).nox c (bh st) fs ww∧(decide (fs.map (·.1)).Nodup = true∧fs.length < 900)∧∀ ds Kc,ds.length = n→sp ds Kc→zx c nN fs ww ds Kc) :
  uH P w K mg base c (k + 1) n sp:=by
 obtain ⟨C,f,fd,F,M,a,hm,hb⟩:=D.ex
 refine ⟨⟨C,f,fd,ps,M,F.ok S (fun vs H Q E h=>by rw [hn]; exact h.len) (fun cdv A outer s H vs Q E hr h=>?_),a,hm,hb⟩,ar⟩
 obtain ⟨fs,ww,h1,h0,h2⟩:=hbody cdv A outer s H E f hr
 exact ⟨_,h1.h,Iy (X:=(cxOf CX0 P w K mg base N qual (ab st) f cdv A outer s H E).nox) rfl hN hle h1.all (of_decide_eq_true h0.1) h0.2 h h2⟩
def i4:List R→Option (List PyData)
 | []=>some []
 | .imm d :: rs=>(i4 rs).map (d :: ·)
 | _ :: _=>none
def ma (P:List PyData→Prop) (rs:List R):Prop:=match i4 rs with
 | some ds=>P ds
 | none=>False
def xp (sp:SpI) (ws:WA):WE:=fun m K=>ws m fun rs m1=>ma (fun ds=>sp ds fun t=>K (.newT t) m1) rs
theorem oN {K:Kd} {α : Al} {Hb H:Hp}:∀ {rs:List R} {vs:List V} {ds:List PyData},RelRs K α Hb H rs vs→i4 rs = some ds→DenAll K H ds vs
 | _,_,ds,.nil,e=>by cases e; exact DenAll.nil
 | _,_,ds,.cons (r:=.imm d) (rs:=rs) h t,e=>by
  simp only [i4] at e
  cases q:i4 rs with
  | none=>rw [q] at e; cases e
  | some ds' =>
   rw [q] at e; cases e
   exact DenAll.cons h (oN t q)
 | _,_,_,.cons (r:=.obj _) _ _,e=>by cases e
 | _,_,_,.cons (r:=.at _ _) _ _,e=>by cases e
 | _,_,_,.cons (r:=.new _) _ _,e=>by cases e
 | _,_,_,.cons (r:=.newT _) _ _,e=>by cases e
section
variable {X:Cx} {a:Expr} {es:List Expr} {ws:WA} {p pos:Pos} {c:Str} {k n:Nat} {sp:SpI} {E:XK} {σ : St} {H:Hp} {Q:VK} {C:Addr}
theorem Aa (h:tM X.kx (xp sp ws) σ H Q) (hC:PySem.W.nsIn X.K mainGlobals c = some (some (.ref C))) (hn:∀ ds Kc,sp ds Kc→ds.length = n):Gf C (spIn X.kd c n sp) [] E (tMA X.kx ws) σ H Q:=by
 obtain ⟨α,m,Kc,Rl,hw,fin⟩:=h
 refine ⟨α,m,_,Rl,hw,fun rs m1 vs H1 q n1 Rl1 rr F1 x dx hx hdx ne=>?_⟩
 unfold ma at q
 cases e:i4 rs with
 | none=>rw [e] at q; exact q.elim
 | some ds =>
  rw [e] at q
  have hd:=oN rr e
  have up:∀ b o,H1 b = some o→(upd (upd H1 dx (.own x)) x (.ins C dx [])) b = some o:=fun b o eb=>by
   have b1:b≠x:=fun z=>by rw [z,hx] at eb; cases eb
   have b2:b≠dx:=fun z=>by rw [z,hdx] at eb; cases eb
   rw [av b1,av b2]; exact eb
  have new1:∀ b,H1 b = none→H b = none:=fun b q=>by
   cases z:H b with
   | none=>rfl
   | some o =>
    by_cases hb:b∈ads α
    ·obtain ⟨o,q2,_⟩:=Rl1.mem hb
     rw [q] at q2; cases q2
    ·have:=F1 b o z hb
     rw [q] at this; cases this
  have pe0:Pers H1 (upd (upd H1 dx (.own x)) x (.ins C dx [])):=⟨fun b xs e=>up b _ e,fun b o u e=>up b _ e⟩
  refine ⟨x,C,dx,ds,vs,_,by rw [List.append_nil],hn _ _ q,aC,hC,hd.mono pe0,q,fun t τ H' kt e1 e2 e3 e4 e5=>⟨rfl,?_⟩⟩
  have up':∀ b o,H1 b = some o→H' b = some o:=fun b o eb=>e5 b o (up b o eb) fun z=>by rw [z,hx] at eb; cases eb
  have F':Frm α H1 H':=fun b o eb _=>up' b o eb
  have Rl':Rel X.kx α m1 σ H':=Rl1.at (xQ up') (fun b hb=>by obtain ⟨o,q,_⟩:=Rl1.mem hb; rw [q]; exact up' b o q) F'
  refine fin _ m1 (.ref x) H' kt n1 Rl' ⟨τ,x,rfl,e1,e2,fun b hb=>?_,e4⟩ (F1.trans F')
  rcases e3 b hb with rfl | z
  ·exact new1 _ hx
  ·refine new1 b ?_
   cases y:H1 b with
   | none=>rfl
   | some o=>rw [up b o y] at z; cases z
theorem AM (F:uH X.prog X.w X.K X.mg X.base c k n sp) (hr:Room (k + 1) X.A) (ha:MA X (a :: es) ws) (hg:Gl X c:=by rfl) (hdb:(c == ("__debug__" : Str)) = false:=by decide) (he:starEach (a :: es) X.env = (false,eval a X.env) :: starEach es X.env:=by first | exact aD rfl | rfl) (hpl:(backTo pos (starEach es X.env)).any (·.1) = false:=by rfl):ME X (.Call (.Name c p) (a :: es) [] pos) (xp sp ws):=by
 obtain ⟨C,f,fd,ps,M,G,hC,hm,hb⟩:=F.ex
 exact (y8 (E:=E0) M G hr hg hm hb .nil wm ha hdb he hpl).wk fun _ _ _ h=>Aa h hC F.ar
theorem wy (F:uH X.prog X.w X.K X.mg X.base c k n sp) (hr:Room (k + 1) X.A) (ha:EA X (a :: es) ws) (hg:Gl X c:=by rfl) (hdb:(c == ("__debug__" : Str)) = false:=by decide) (he:starEach (a :: es) X.env = (false,eval a X.env) :: starEach es X.env:=by first | exact aD rfl | rfl) (hpl:(backTo pos (starEach es X.env)).any (·.1) = false:=by rfl):EE X (.Call (.Name c p) (a :: es) [] pos) (xp sp ws):=⟨AM F hr ha.h hg hdb he hpl⟩
end
section
variable {m:MSt} {Q:R→MSt→Prop} {wo:WE} {ws:WA} {c f:Str} {sp:SpM} {spi:SpI}
theorem IM (h:wo m fun r m1=>onAt (fun k p=>fGot m1 c k p f fun r=>Q r m1) r):wFld c f wo m Q:=h
theorem yU {k j:Nat} {p:List Nat} {t t' d:PyData} {kvs:List (PyData×PyData)} {K:R→Prop} (e1:m.os[k]? = some [t]) (e2:getT t p = some (.dict kvs)) (e3:excC kvs = some c) (e4:fdAt f 0 kvs = some (j,t')) (e5:fx t' = some d) (h:K (.imm d)):fGot m c k p f K:=⟨t,kvs,j,t',e1,e2,e3,e4,by unfold fj; rw [e5]; exact h⟩
theorem zr {k j:Nat} {p:List Nat} {t t':PyData} {kvs:List (PyData×PyData)} {K:R→Prop} (e1:m.os[k]? = some [t]) (e2:getT t p = some (.dict kvs)) (e3:excC kvs = some c) (e4:fdAt f 0 kvs = some (j,t')) (e5:fx t' = none) (h:K (.at k (p++[j]))):fGot m c k p f K:=⟨t,kvs,j,t',e1,e2,e3,e4,by unfold fj; rw [e5]; exact h⟩
theorem Dg (h:wo m fun ro m1=>insR m1 c f ro (ws m1 fun rs m2=>Cj (fun as ks=>ks.Nodup∧sp as fun r outs=>Q (mapR ks r) { m2 with os:=bC m2.os ks outs }) (d4 m2 (ro :: rs)))):qo c f sp wo ws m Q:=h
theorem zg {p:List Ag→List Nat→Prop} {as:List Ag} {ks:List Nat} {o:Option (List Ag×List Nat)} (e:o = some (as,ks)) (nd:ks.Nodup) (h:p as ks):Cj (fun as ks=>ks.Nodup∧p as ks) o:=⟨as,ks,e,nd,h⟩
theorem Ib {k:Nat} {kvs:List (PyData×PyData)} {P:Prop} (e1:m.os[k]? = some [.dict kvs]) (e2:excC kvs = some c) (e3:fdAt f 0 kvs = none) (h:P):insR m c f (.at k []) P:=⟨k,kvs,rfl,e1,e2,e3,h⟩
theorem F8 (h:ws m fun rs m1=>ma (fun ds=>spi ds fun t=>Q (.newT t) m1) rs):xp spi ws m Q:=h
theorem vK {P:List PyData→Prop} {rs:List R} {ds:List PyData} (e:i4 rs = some ds) (h:P ds):ma P rs:=by unfold ma; rw [e]; exact h
theorem Bv {nN:Nat} {fs:List (Str×WE)} {w:WS} {ds:List PyData} {Kc:PyData→Prop} (m0:MSt) (e:m0 = iE nN ds) (h:wFs fs m0 fun ts _=>w { nx:=fun m=>∃ t,m.os[0]? = some [t]∧Kc t,rt:=fun _ _=>False } (cv nN (.tr (insT c ts) :: ds.map .imm))):zx c nN fs w ds Kc:=by subst e; exact h
theorem JB {r:List (Str×WE)} {we:WE} {K:List (Str×PyData)→MSt→Prop} (h:we m fun rv m1=>onTr (fun t=>wFs r m1 fun ts m2=>K ((f,t) :: ts) m2) rv):wFs ((f,we) :: r) m K:=h
theorem KI {K:List (Str×PyData)→MSt→Prop} (h:K [] m):wFs [] m K:=h
theorem JZ {P:PyData→Prop} {d:PyData} (h:P (lfD d)):onTr P (.imm d):=h
theorem J2 {P:PyData→Prop} {ds:List PyData} (h:P (.list (ds.map lfD))):onTr P (.new ds):=h
end
end L2
namespace L2
open PySem PySem.Spec PyProof.Rows
open Sem (wp)
section
variable {prog:Program} {w:World} {A:Around} {E:Value→Shared→Prop} {s:Shared}
theorem pK {R:Result→Shared→Prop} {r S:Addr} {a b c:Int} {t u v:Tok} {n k:Nat} (hh:A.handled = none) (hr:IsRange s.heap r a b c t u v) (hsmall:Builtin.Range.small a b c = true) (hn:Builtin.Range.rangeSize a b c = n) (hlen:n≤2 ^ 24) (hS:s.heap.get? S = some { cls:=.type "list",data:=.seq #[] k })
  (fin:∀ h' tk acc c',(∀ b o,b≠S→s.heap.get? b = some o→h'.get? b = some o)→h'.get? S = some { cls:=.type "list",data:=.seq acc c' }→ItemsOf (fun i v=>∃ t,v = .int (a + i * c) t) acc n→R (.ok (.ret (.ref S))) { s with heap:=h',toks:=tk }) :
  codeAny (model prog w) A (.builtin "list.__iadd__" ⟨[.ref S,.ref r],[]⟩) R s:=by
 refine codeAny_builtin F.entry_list_iadd ?_
 have e:=Around.under_plainId (A:=A) F.plain_list_iadd ⟨[.ref S,.ref r],[]⟩
 rw [e]
 exact wpAny_extend_range hh hr hsmall hn hlen S (.ref S) k hS fin
theorem kL {Q:List Value→Shared→Prop} {r:Addr} {a b c:Int} {t u v:Tok} {n:Nat} (hh:A.handled = none) (hr:IsRange s.heap r a b c t u v) (hsmall:Builtin.Range.small a b c = true) (hn:Builtin.Range.rangeSize a b c = n) (hlen:n≤2 ^ 24)
  (hQ:∀ h' tk acc,(∀ b o,s.heap.get? b = some o→h'.get? b = some o)→ItemsOf (fun i v=>∃ t,v = .int (a + i * c) t) acc n→Q acc.toList { s with heap:=h',toks:=tk }):wpAny (model prog w) A (collect (.ref r)) Q E s:=by
 have new:(s.heap.push { cls:=.type "list",data:=.seq #[] }).get? s.heap.objs.size = some { cls:=.type "list",data:=.seq #[] }:=Heap.get?_push_size _ rfl
 refine wpAny_bind (m:=runValue _) (wpAny_runValue (codeAny_builtin F.entry_proto_collect (wpAny_bind (m:=newList []) (wpAny_newObj_type (wpAny_pure ⟨plainId_quiet F.plain_list_iadd _,?_⟩)))))
 refine pK (s:={ s with heap:=s.heap.push { cls:=.type "list",data:=.seq #[] } }) hh (Heap.get?_push_of_some _ hr) hsmall hn hlen new fun h' tk acc c' hk hS hacc=>?_
 refine wpAny_bind (m:=load s.heap.objs.size) (wpAny_load hS ?_)
 exact wpAny_pure (hQ h' tk acc (fun b o e=>hk b o (Nat.ne_of_lt (Heap.lt_size e)) (Heap.get?_push_of_some _ e)) hacc)
end
open AutoSeq1 (wpAny_loadPart') in
theorem jO {r:Addr} {a b c:Int} {t u v:Tok} {n:Nat} (hsmall:Builtin.Range.small a b c = true) (hn:Builtin.Range.rangeSize a b c = n) (hlen:n≤2 ^ 24) (hsz:n≤sizeLine) :
  Meets (Builtin.«tuple.__new__» ⟨[.type "tuple",.ref r],[]⟩) fun A R s=>A.handled = none∧IsRange s.heap r a b c t u v∧∀ (h':Heap) (tk:Nat) (acc:Array Value),(∀ b o,s.heap.get? b = some o→h'.get? b = some o)→ItemsOf (fun i v=>∃ t,v = .int (a + i * c) t) acc n →
    R (.ok (.ret (.ref h'.objs.size))) { s with heap:=h'.push { cls:=.type "tuple",data:=.seq acc },toks:=tk } :=
 .of_wp fun prog w A R s h=>by
  rcases h with ⟨calm,hr,h⟩
  have f1:=sub_tuple_self
  have f2:=init_tuple_lookup
  have f3:=madeHere_tuple
  have calm1:A.in1.handled = none:=calm
  have ty:s.TypeIs (.ref r) "range" := ⟨_,hr,rfl⟩
  wp_walk using wpAny_typeOf ty,kL calm1 hr hsmall hn hlen
  intro h' tk acc hk hacc
  have fits:acc.toList.toArray.size≤sizeLine:=by rw [List.size_toArray,Array.length_toList,hacc.1]; exact hsz
  have same:acc.toList.toArray = acc:=Array.toArray_toList
  refine wpAny_bind (m:=Builtin.Tuple.tupleExact acc.toList.toArray) (wpAny_newObj_type (wpAny_pure ⟨_,rfl,?_⟩) fits)
  exact same.symm▸h h' tk acc hk hacc
section
variable {prog:Program} {w:World} {A:Around} {E:Value→Shared→Prop} {s:Shared}
theorem gJ {Q:Value→Shared→Prop} {r:Addr} {a b c:Int} {t u v:Tok} {n:Nat} (hh:A.handled = none) (hr:IsRange s.heap r a b c t u v) (hsmall:Builtin.Range.small a b c = true) (hn:Builtin.Range.rangeSize a b c = n) (hlen:n≤2 ^ 24) (hsz:n≤sizeLine)
  (h:∀ (h':Heap) (tk:Nat) (acc:Array Value),(∀ b o,s.heap.get? b = some o→h'.get? b = some o)→ItemsOf (fun i v=>∃ t,v = .int (a + i * c) t) acc n→Q (.ref h'.objs.size) { s with heap:=h'.push { cls:=.type "tuple",data:=.seq acc },toks:=tk }) :
  wpAny (model prog w) A (call (.type "tuple") [.ref r]) Q E s :=
 callType_new F.called_tuple (by decide) (F.typeCall_tuple_1 _) (F.newCall_tuple_1 _) (fun obj=>F.args_object_init_2 obj _) F.entry_tuple_new (jO hsmall hn hlen hsz) ⟨hh,hr,fun h' tk acc hk hacc=>⟨⟨_,Heap.get?_push_size _ rfl,rfl⟩,h h' tk acc hk hacc⟩⟩
end
section
variable {X:Cx} {a:Expr} {ws:WA} {p pos p2 pos2:Pos}
def JG (ta:TA):TE:=fun σ H Q=>ta σ H fun vs H1=>∃ j:Int,vs = [.int j]∧-(2 ^ 62)≤j∧j≤16777216∧∀ l,H1 l = none→Q (.ref l) (upd H1 l (.tup ((List.range j.toNat).map fun (i:Nat)=>V.int (i:Int))))
theorem Bw {ta:TA} (hc:X.calm = true) (hgr:Gl X "tuple") (hmr:X.mg "tuple" = none) (hg:Gl X "range") (hm:X.mg "range" = none) (ha:PA X [a] ta) (hs:starEach [a] X.env = [(false,eval a X.env)]:=by first | exact br rfl | rfl)
  (hs2:starEach [.Call (.Name "range" p2) [a] [] pos2] X.env = [(false,eval (.Call (.Name "range" p2) [a] [] pos2) X.env)]:=by rfl):PE X (.Call (.Name "tuple" p) [.Call (.Name "range" p2) [a] [] pos2] [] pos) (JG ta):=by
 intro pins s σ H Q I h
 refine Call_ (gH I hgr hmr b0 (PyProof.Rows.callWith_type1 ?_ hs2 rfl))
 rw [hs2]
 refine Calls.spliced_cons ?_
 refine Call_ (gH I hg hm boot_range (PyProof.Rows.callWith_type1 (thn (ha pos2 pins s σ H _ I h) fun us s1 ⟨vs,H1,I1,r1,q1⟩=>?_) hs rfl))
 obtain ⟨j,e,q1,q2,q⟩:=q1
 subst e
 cases r1 with
 | cons r rr =>
  cases rr
  obtain ⟨t,rfl⟩:=r
  refine call_range_1 ?_
  refine Calls.spliced_nil ?_
  have I2:Inv X pins σ H1 { s1 with heap:=s1.heap.push { cls:=.type "range",data:=.fields #[.int 0 s1.toks,.int j t,.int 1 (s1.toks + 1)] },toks:=s1.toks + 1 + 1 }:=I1.kept fun b o e=>Heap.get?_push_of_some _ e
  have hr:IsRange (s1.heap.push { cls:=.type "range",data:=.fields #[.int 0 s1.toks,.int j t,.int 1 (s1.toks + 1)] }) s1.heap.objs.size 0 j 1 s1.toks t (s1.toks + 1):=IsRange.new ..
  generalize hS:({ s1 with heap:=s1.heap.push { cls:=.type "range",data:=.fields #[.int 0 s1.toks,.int j t,.int 1 (s1.toks + 1)] },toks:=s1.toks + 1 + 1 }:Shared) = s2 at I2 ⊢
  have hr2:IsRange s2.heap s1.heap.objs.size 0 j 1 s1.toks t (s1.toks + 1):=by rw [←hS]; exact hr
  refine gJ (n:=j.toNat) (I.ok.hd hc) hr2 (small_one (by decide) (by decide) (by omega) (by omega)) (by rw [rangeSize_one]; split <;> omega) (by omega) (by rw [sizeLine_eq]; omega) fun h' tk acc' hk hacc=>?_
  have I3:Inv X pins σ H1 { s2 with heap:=h',toks:=tk }:=I2.kept hk
  have hp:H1 h'.objs.size = none:=I3.hok.fresh (Nat.le_refl _)
  have hv:Vals ((List.range j.toNat).map fun (i:Nat)=>V.int (i:Int)) acc'.toList:=by
   have hl:acc'.toList.length = j.toNat:=by simpa using hacc.1
   have:∀ (n:Nat) (l:List Value),l.length = n→∀ k:Nat,(∀ i v,l[i]? = some v→∃ t,v = Value.int (0 + ((k + i:Nat):Int) * 1) t)→Vals ((List.range' k n).map fun (i:Nat)=>V.int (i:Int)) l:=by
    intro n
    induction n with
    | zero=>intro l h0 k _; cases l with | nil=>exact .nil | cons _ _=>simp at h0
    | succ n ih =>
     intro l h0 k hh
     cases l with
     | nil=>simp at h0
     | cons v l =>
      rw [List.range'_succ,List.map_cons]
      refine .cons ?_ (ih l (by simpa using h0) (k + 1) fun i v hi=>?_)
      ·obtain ⟨t,e⟩:=hh 0 v rfl
       exact ⟨t,by rw [e]; congr 1; omega⟩
      ·obtain ⟨t,e⟩:=hh (i + 1) v (by simpa using hi)
       exact ⟨t,by rw [e]; congr 1; omega⟩
   have:=this j.toNat acc'.toList hl 0 fun i v hi=>by
    obtain ⟨t,e⟩:=hacc.2 i v (by simpa using hi)
    exact ⟨t,by rw [e]; congr 1; omega⟩
   rw [List.range_eq_range']
   exact this
  refine ⟨.ref h'.objs.size,_,I3.laid (t':=tk) (o:=.tup _) (fun b ob e=>Heap.get?_push_of_some _ e) (Nat.le_refl _) ⟨?_,acc'.toList,hv,?_⟩,rfl,q _ hp⟩
  ·rw [List.length_map,List.length_range,sizeLine_eq]
   omega
  ·have e:acc'.toList.toArray = acc':=by simp
   rw [e]
   exact PlainT.new _ _
def Bx (ws:WA):WE:=fun m K=>ws m fun rs m'=>on1 (iQ fun j=>(-(2 ^ 62)≤j∧j≤16777216)∧K (.imm (.tuple (ci 0 j.toNat))) m') rs
theorem Br (hmr:X.mg "tuple" = none) (hm:X.mg "range" = none) (ha:MA X [a] ws) (hc:X.calm = true:=by rfl) (hgr:Gl X "tuple" := by rfl) (hg:Gl X "range" := by rfl) (hs:starEach [a] X.env = [(false,eval a X.env)]:=by first | exact br rfl | rfl)
  (hs2:starEach [.Call (.Name "range" p2) [a] [] pos2] X.env = [(false,eval (.Call (.Name "range" p2) [a] [] pos2) X.env)]:=by rfl):ME X (.Call (.Name "tuple" p) [.Call (.Name "range" p2) [a] [] pos2] [] pos) (Bx ws):=(Bw hc hgr hmr hg hm ha hs hs2).wk fun σ H Q ⟨α,m,Kc,Rl,hw,fin⟩=>by
 refine ⟨α,m,_,Rl,hw,fun rs m' vs H' k n Rl' rr F=>?_⟩
 obtain ⟨r,v,rfl,rfl,h1,k⟩:=bO rr k
 obtain ⟨j,rfl,rfl,⟨k1,k2⟩,k⟩:=k8 h1 k
 refine ⟨j,rfl,k1,k2,fun l hl=>fin _ m' _ _ k n (Rl'.lay hl) (dj (cN (SqT.of aC) ?_)) (F.trans (bR hl))⟩
 have e:ci 0 j.toNat = ((List.range j.toNat).map fun (i:Nat)=>(i:Int)).map PyData.int:=by simp [ci]
 have e2:((List.range j.toNat).map fun (i:Nat)=>V.int (i:Int)) = ((List.range j.toNat).map fun (i:Nat)=>(i:Int)).map V.int:=by simp
 rw [e,e2]
 exact DenAll.ints _
theorem vM (hmr:X.mg "tuple" = none) (hm:X.mg "range" = none) (ha:EA X [a] ws) (hc:X.calm = true:=by rfl) (hgr:Gl X "tuple" := by rfl) (hg:Gl X "range" := by rfl) (hs:starEach [a] X.env = [(false,eval a X.env)]:=by first | exact br rfl | rfl)
  (hs2:starEach [.Call (.Name "range" p2) [a] [] pos2] X.env = [(false,eval (.Call (.Name "range" p2) [a] [] pos2) X.env)]:=by rfl):EE X (.Call (.Name "tuple" p) [.Call (.Name "range" p2) [a] [] pos2] [] pos) (Bx ws):=⟨Br hmr hm ha.h hc hgr hg hs hs2⟩
theorem D7 {m:MSt} {K:R→MSt→Prop} (h:ws m fun rs m'=>on1 (iQ fun j=>(-(2 ^ 62)≤j∧j≤16777216)∧K (.imm (.tuple (ci 0 j.toNat))) m') rs):Bx ws m K:=h
end
end L2
namespace K
open PySem L2
local macro_rules | `(tactic| walk_at "x1") => `(tactic| first
 | with_reducible apply qF | with_reducible apply JP | ((with_reducible refine' q9 ?xe ?_); (case xe=>rfl)) | with_reducible apply x_c
 | with_reducible apply Eh | with_reducible apply ol | with_reducible apply z9 | with_reducible apply BP | with_reducible apply AC | with_reducible apply Ju
 | with_reducible apply Fg | with_reducible apply IE | with_reducible apply x_lt | with_reducible apply x_le | with_reducible apply x_gt | with_reducible apply x_ge | with_reducible apply KQ | with_reducible apply J1 | with_reducible apply Ki | with_reducible apply vG | with_reducible apply Jc | ((with_reducible refine' x_nd ?xe ?_); (case xe=>first | rfl | assumption)) | with_reducible apply x_rev | with_reducible apply x_min | with_reducible apply Kl | ((with_reducible refine' JU ?_)) | with_reducible apply Ic | with_reducible apply x_mt | with_reducible apply x_ts
 | ((with_reducible refine' bM ?xe ?_); (case xe=>rfl)) | ((with_reducible refine' dE ?xf ?xe ?_); (case xf=>rfl); (case xe=>rfl)) | ((with_reducible refine' mz ?xe ?_); (case xe=>rfl)) | ((with_reducible refine' j6 ?xe ?_); (case xe=>rfl))
 | ((with_reducible refine' vD ?xe ?_); (case xe=>omega)) | ((with_reducible refine' IO ?xe ?_); (case xe=>exact cfd (by omega) (by omega))) | ((with_reducible refine' y7 ?xe ?_); (case xe=>exact JW (by omega))) | ((with_reducible refine' Jj ?xe ?_); (case xe=>exact ⟨by decide,by decide,by decide⟩))
 | with_reducible apply Gc | with_reducible apply ky | with_reducible apply x_bindO | with_reducible apply JI | with_reducible apply Kq | with_reducible apply Fq
 | with_reducible apply IC | ((with_reducible refine' sr ?xe ?xf ?_); (case xe=>rfl); (case xf=>rfl))
 | with_reducible apply Kf | with_reducible apply x_or | with_reducible apply IY | with_reducible apply Fi | with_reducible apply x_orV | with_reducible apply IK
 | with_reducible apply Ie | with_reducible apply Jw | with_reducible apply x_cb | with_reducible apply Gj | ((with_reducible refine' Jp ?xe ?xf ?_); (case xe=>rfl); (case xf=>decide))
 | with_reducible apply Jy | with_reducible apply Jd | ((with_reducible refine' JT ?xe ?xf ?_); (case xe=>rfl); (case xf=>exact of_decide_eq_true rfl)) | with_reducible apply J5
 | with_reducible apply KM | with_reducible apply D6 | with_reducible apply vw | with_reducible apply FJ | with_reducible apply Ip | with_reducible apply Dv | with_reducible apply z6 | with_reducible apply kQ | with_reducible apply x_bindA | ((with_reducible refine' IQ ?xa ?xb ?xc ?xd ?xe ?_); (case xa=>rfl); (case xb=>rfl); (case xc=>rfl); (case xd=>rfl); (case xe=>rfl)) | ((with_reducible refine' x_dgotN ?xa ?xb ?xc ?xd ?xe ?_); (case xa=>rfl); (case xb=>rfl); (case xc=>rfl); (case xd=>rfl); (case xe=>rfl)) | ((with_reducible refine' zO ?xa ?xb ?xc ?xd ?xe ?xf ?_); (case xa=>rfl); (case xb=>rfl); (case xc=>rfl); (case xd=>rfl); (case xe=>exact of_decide_eq_true rfl); (case xf=>rfl)) | ((with_reducible refine' ve ?xa ?xb ?xc ?xd ?_); (case xa=>rfl); (case xb=>rfl); (case xc=>exact of_decide_eq_true rfl); (case xd=>rfl))
 | with_reducible apply x_callX | ((with_reducible refine' x_agsX ?xe ?xf ?_); (case xe=>rfl); (case xf=>decide)) | with_reducible apply x_raise | with_reducible apply x_raiseI | with_reducible apply x_excI | with_reducible apply x_excP | with_reducible apply x_xf | with_reducible apply x_isX | with_reducible apply x_isXs | ((with_reducible refine' x_rz ?xe ?_); (case xe=>exact of_decide_eq_true rfl))
 | ((with_reducible refine' zg ?xa ?xb ?_); (case xa=>rfl); (case xb=>decide)) | with_reducible apply D7 | with_reducible apply x_dixD | with_reducible apply x_immT | with_reducible apply JB | with_reducible apply KI | with_reducible apply JZ | with_reducible apply J2 | with_reducible apply x_trT | with_reducible apply IM | ((with_reducible refine' yU ?xa ?xb ?xc ?xd ?xe ?_); (case xa=>rfl); (case xb=>rfl); (case xc=>rfl); (case xd=>rfl); (case xe=>rfl)) | ((with_reducible refine' zr ?xa ?xb ?xc ?xd ?xe ?_); (case xa=>rfl); (case xb=>rfl); (case xc=>rfl); (case xd=>rfl); (case xe=>rfl)) | with_reducible apply Dg | ((with_reducible refine' Ib ?xa ?xb ?xc ?_); (case xa=>rfl); (case xb=>rfl); (case xc=>rfl)) | with_reducible apply F8 | ((with_reducible refine' vK ?xa ?_); (case xa=>rfl)) | with_reducible apply x_reps | with_reducible apply x_dputT | with_reducible apply x_empt | with_reducible apply x_dispT | with_reducible apply x_ml0 | ((with_reducible refine' x_onPairsT ?xa ?xb ?xc ?_); (case xa=>rfl); (case xb=>rfl); (case xc=>exact of_decide_eq_true rfl))
 | with_reducible apply x_un | with_reducible apply Kz | with_reducible apply x_abs | with_reducible apply x_intI | with_reducible apply Gi
 | with_reducible apply Jh | with_reducible apply Iz | with_reducible apply Gm | ((with_reducible refine' x_lenO ?xe ?_); (case xe=>rfl)) | with_reducible apply IP
 | with_reducible apply Jf | with_reducible apply J7 | with_reducible apply GA | with_reducible apply x_retN | with_reducible apply zu
 | with_reducible apply x_ml | ((with_reducible refine' x_ls ?xe ?_); (case xe=>rfl))
 | with_reducible apply Jm | with_reducible apply x_isB | with_reducible apply wY
 | with_reducible apply x_gM | with_reducible apply DJ | with_reducible apply B6 | with_reducible apply C7
 | ((with_reducible refine' zG ?xe ?_); (case xe=>rfl)) | with_reducible apply CN | ((with_reducible refine' Gz ?xe ?_); (case xe=>rfl)) | ((with_reducible refine' u9 ?xe ?_); (case xe=>rfl)) | with_reducible apply x_listR
 | with_reducible apply x_sl | with_reducible apply yb | with_reducible apply Dn
 | with_reducible apply KJ | with_reducible apply IB | with_reducible apply DF | with_reducible apply yn | ((with_reducible refine' GF ?xe ?_); (case xe=>rfl)) | with_reducible apply E8 | with_reducible apply x_rng2
 | with_reducible apply BT | with_reducible apply x_comp2 | with_reducible apply JO | with_reducible apply vk | with_reducible apply Fx | with_reducible apply b6 | with_reducible apply bP)
local macro_rules | `(tactic| walk_at "xs") => `(tactic| repeat walk_at "x1")
local macro_rules | `(tactic| walk_at "xn") => `(tactic| first | dsimp only [mapR, bC, List.set, MSt.setV, MSt.setN, List.take, List.length, List.append, jf, qC, Nat.reduceAdd, List.getD_cons_succ, List.getD_cons_zero, List.nil_append, List.cons_append, setT, lfD] | dsimp only [mapR, bC, List.set, MSt.setV, MSt.setN, List.take, List.length, List.append, jf, qC, Nat.reduceAdd, List.getD_cons_succ, List.getD_cons_zero, List.nil_append, List.cons_append] | skip)
local macro_rules | `(tactic| walk_at "sc") => `(tactic| exact ⟨rfl, rfl, rfl, by decide +kernel, rfl, by decide +kernel, by decide +kernel⟩)
local macro_rules | `(tactic| walk_at "xx") => `(tactic| (walk_at "xn"; walk_at "xs"))
def top (i:Nat):Stmt:=PySem.Challenge.pw_shorterline_k61_runs_as_texts.main.body.getD i (.Pass ⟨0,0,0,0⟩)
abbrev i9:Stmt:=top 6
abbrev cc:Stmt:=top 7
abbrev dG:Stmt:=top 8
abbrev eh:Stmt:=top 9
abbrev dv:Stmt:=top 10
abbrev kb:Stmt:=top 12
abbrev jY:Stmt:=top 14
abbrev cy:Stmt:=top 15
abbrev cx:Stmt:=top 17
abbrev ki:Stmt:=top 18
abbrev cE:Stmt:=top 19
abbrev kg:Stmt:=top 20
abbrev du:Stmt:=top 22
abbrev iW:Stmt:=top 23
abbrev jV:Stmt:=top 24
abbrev fG:Stmt:=top 25
abbrev j1:Stmt:=top 26
abbrev j0:Stmt:=top 27
abbrev db:Stmt:=top 28
abbrev kI:Stmt:=top 29
abbrev dF:Stmt:=top 30
abbrev kH:Stmt:=top 31
abbrev i8:Stmt:=top 32
abbrev df:Stmt:=top 35
abbrev gg:Stmt:=top 36
abbrev fg:Stmt:=top 37
abbrev ck:Stmt:=top 38
abbrev gc:Stmt:=top 39
abbrev iw:Stmt:=top 40
abbrev cP:Stmt:=top 42
abbrev bx:Stmt:=top 43
abbrev cK:Stmt:=top 44
abbrev dB:Stmt:=top 45
abbrev dh:Stmt:=top 46
abbrev bf:Stmt:=(nu (top 48)).getD 0 (.Pass ⟨0,0,0,0⟩)
abbrev cV:Stmt:=(nu (top 48)).getD 1 (.Pass ⟨0,0,0,0⟩)
abbrev aV:Stmt:=(nu (top 48)).getD 5 (.Pass ⟨0,0,0,0⟩)
abbrev fX:Stmt:=top 50
abbrev fY:Stmt:=top 51
abbrev fJ:Stmt:=top 52
abbrev bU:Stmt:=top 54
abbrev bA:Stmt:=top 53
abbrev iq:Stmt:=top 55
abbrev dN:Stmt:=top 56
abbrev d9:Stmt:=top 57
abbrev slaw:Stmt:=top 58
structure Bl (K:PySem.W.Frag) (mg:Str→Option Value):Prop where
 len:mg "len" = none
 abs:mg "abs" = none
 range:mg "range" = none
 list:mg "list" = none
 tuple:mg "tuple" = none
 int:mg "int" = none
 sum:mg "sum" = none
 zip:mg "zip" = none
 min:mg "min" = none
 max:mg "max" = none
 enumerate:mg "enumerate" = none
 sorted:mg "sorted" = none
 isinstance:mg "isinstance" = none
 bool:mg "bool" = none
 str:mg "str" = none
 repr:mg "repr" = none
 c_FIGURES:ConM K mg "FIGURES" (.str "0123456789")
 c_VOID_RUN:ConM K mg "VOID_RUN" (.str "-")
 f_Floor_hall:InsF K "Floor" "hall"
 f_Floor_rule:InsF K "Floor" "rule"
 f_Floor_moves:InsF K "Floor" "moves"
 f_Floor_scenes:InsF K "Floor" "scenes"
theorem qt:ak ["thing"] ["thing"] (ab i9):=by walk_at "sc"
theorem fE:ak ["thing", "least", "most"] ["thing", "least", "most"] (ab cc):=by walk_at "sc"
theorem j7:ak ["thing", "many"] ["thing", "many"] (ab dG):=by walk_at "sc"
theorem scis_figures:ak ["word", "sign"] ["word"] (ab eh):=by walk_at "sc"
theorem km:ak ["word"] ["word"] (ab dv):=by walk_at "sc"
theorem sn:ak ["one", "other"] ["one", "other"] (ab kb):=by walk_at "sc"
theorem sj:ak ["hall", "thing"] ["hall", "thing"] (ab jY):=by walk_at "sc"
theorem scplace_of_lines:ak ["hall", "lines", "place", "many", "server"] ["hall", "lines"] (ab cy):=by walk_at "sc"
theorem scfirst_shortest:ak ["lines", "order", "best", "line"] ["lines", "order"] (ab cx):=by walk_at "sc"
theorem scwait_at:ak ["hall", "lines", "line", "top", "bottom"] ["hall", "lines", "line"] (ab ki):=by walk_at "sc"
theorem scfirst_quickest:ak ["hall", "lines", "order", "best", "least", "line", "wait"] ["hall", "lines", "order"] (ab cE):=by walk_at "sc"
theorem scsent_to:ak ["hall", "rule", "stand", "order", "lines", "turn", "word"] ["hall", "rule", "stand", "order"] (ab kg):=by walk_at "sc"
theorem kG:ak ["hall"] ["hall"] (ab du):=by walk_at "sc"
theorem scis_order:ak ["hall", "thing", "line"] ["hall", "thing"] (ab iW):=by walk_at "sc"
theorem uF:ak ["hall", "thing"] ["hall", "thing"] (ab jV):=by walk_at "sc"
theorem nT:ak ["lines", "line", "more"] ["lines", "line", "more"] (ab fG):=by walk_at "sc"
theorem sN:ak ["hall", "lines", "line"] ["hall", "lines", "line"] (ab j1):=by walk_at "sc"
theorem qX:ak ["lines", "line"] ["lines", "line"] (ab j0):=by walk_at "sc"
theorem gC:ak ["hall", "lines"] ["hall", "lines"] (ab db):=by walk_at "sc"
theorem scsettled:ak ["hall", "lines", "shift"] ["hall", "lines"] (ab kI):=by walk_at "sc"
theorem kY:ak ["hall", "rule", "turn"] ["hall", "rule", "turn"] (ab dF):=by walk_at "sc"
theorem sd:ak ["hall", "rule", "stand", "move"] ["hall", "rule", "stand", "move"] (ab kH):=by walk_at "sc"
theorem scmoved_on:ak ["hall", "rule", "stand", "move", "lines", "turn", "word", "line"] ["hall", "rule", "stand", "move"] (ab i8):=by walk_at "sc"
theorem lC:ak ["numbers"] ["numbers"] (ab df):=by walk_at "sc"
theorem m9:ak ["move"] ["move"] (ab gg):=by walk_at "sc"
theorem qu:ak ["run"] ["run"] (ab fg):=by walk_at "sc"
theorem jc:ak ["signs"] ["signs"] (ab ck):=by walk_at "sc"
theorem scread_move:ak ["hall", "word", "figures", "move"] ["hall", "word"] (ab gc):=by walk_at "sc"
theorem scread_run:ak ["hall", "text", "moves", "number", "word", "move"] ["hall", "text"] (ab iw):=by walk_at "sc"
theorem sccounts_behind:ak ["counts", "word", "came", "taken", "away", "served"] ["counts", "word"] (ab cP):=by walk_at "sc"
theorem scaskers_settled:ak ["hall", "askers", "shift", "longest", "void"] ["hall", "askers"] (ab bx):=by walk_at "sc"
theorem scaskers_behind:ak ["hall", "askers", "line", "word", "number"] ["hall", "askers", "line", "word", "number"] (ab cK):=by walk_at "sc"
theorem jW:ak ["hall"] ["hall"] (ab dB):=by walk_at "sc"
theorem scscene_behind:ak ["hall", "rule", "scene", "move", "stand", "counts", "askers", "line", "behind", "word"] ["hall", "rule", "scene", "move"] (ab dh):=by walk_at "sc"
theorem gN:ak ["self", "hall", "rule"] ["self", "hall", "rule"] (ab bf):=by walk_at "sc"
theorem scFloor_go:ak ["self", "move", "scene", "word"] ["self", "move"] (ab cV):=by walk_at "sc"
theorem fu:ak ["self"] ["self"] (ab aV):=by walk_at "sc"
theorem mZ:ak ["_law_script"] ["_law_script"] (ab fX):=by walk_at "sc"
theorem sc_law_draw:ak ["_law_tape_here", "_law_many", "_law_found", "_law_turn", "_law_cell", "_law_mixed"] ["_law_tape_here", "_law_many"] (ab fY):=by walk_at "sc"
theorem sc_law_frac:ak ["_law_top", "_law_bottom", "_law_one", "_law_other"] ["_law_top", "_law_bottom"] (ab fJ):=by walk_at "sc"
theorem sc_law_all_lines:ak ["_law_rooms", "_law_found", "_law_room", "_law_longer", "_law_lines"] ["_law_rooms"] (ab bU):=by walk_at "sc"
theorem sc_law_hall:ak ["_law_tape_here", "_law_most", "_law_many", "_law_servers", "_law_come", "_law_whole", "_law_speeds"] ["_law_tape_here", "_law_most"] (ab bA):=by walk_at "sc"
theorem sc_law_run:ak ["_law_tape_here", "_law_hall_here", "_law_many", "_law_run_here", "_law_k", "_law_way", "_law_order", "_law_j", "_law_some"] ["_law_tape_here", "_law_hall_here"] (ab iq):=by walk_at "sc"
theorem sc_law_text:ak ["_law_run_here", "_law_words", "_law_move"] ["_law_run_here"] (ab dN):=by walk_at "sc"
theorem sc_law_grown:ak ["_law_tape_here", "_law_hall_here", "_law_floor", "_law_moves", "_law_k"] ["_law_tape_here", "_law_hall_here"] (ab d9):=by walk_at "sc"
theorem sclaw:ak ["_law_script", "_law_tape_here", "_law_k", "_law_hall_here", "_law_run_here", "_law_former", "_law_turn", "_law_text_here"] ["_law_script"] (ab slaw):=by walk_at "sc"
theorem i5:∀ (kV doc pm:Value) (an:Option Addr) (cdv ct:Value) (us:List Value),us.length = (["self", "hall", "rule"]:List Str).length→bindArgs (PySem.W.fnOf "__init__" "Floor.__init__" (cg bf) (bh bf) (ab bf) .none kV doc pm an cdv ct) ⟨us,[]⟩ = pure ((["self", "hall", "rule"]:List Str).zip us):=fun _ _ _ _ _ _ us hl=>match us,hl with | [_,_,_],_=>rfl
theorem t8:∀ (kV doc pm:Value) (an:Option Addr) (cdv ct:Value) (us:List Value),us.length = (["self", "move"]:List Str).length→bindArgs (PySem.W.fnOf "go" "Floor.go" (cg cV) (bh cV) (ab cV) .none kV doc pm an cdv ct) ⟨us,[]⟩ = pure ((["self", "move"]:List Str).zip us):=fun _ _ _ _ _ _ us hl=>match us,hl with | [_,_],_=>rfl
theorem fV:∀ (kV doc pm:Value) (an:Option Addr) (cdv ct:Value) (us:List Value),us.length = (["self"]:List Str).length→bindArgs (PySem.W.fnOf "run_so_far" "Floor.run_so_far" (cg aV) (bh aV) (ab aV) .none kV doc pm an cdv ct) ⟨us,[]⟩ = pure ((["self"]:List Str).zip us):=fun _ _ _ _ _ _ us hl=>match us,hl with | [_],_=>rfl
def tlS (w:Str):Str:=Txt.slice w (some 1) none
theorem Bf (w:Str):(tlS w).cps.toList = w.cps.toList.drop 1:=by
 by_cases h:w.cps.toList = []
 ·have hw:w = ⟨#[]⟩:=Str.ext' (Array.toList_inj.mp h)
  subst hw
  decide +kernel
 ·have h1 : 1≤w.cps.toList.length:=Nat.one_le_iff_ne_zero.mpr fun z=>h (List.length_eq_zero_iff.mp z)
  have e:tlS w = ⟨((w.cps.toList.drop (1:Int).toNat).take ((w.cps.toList.length:Int) - 1).toNat).toArray⟩:=StrLaws.sliceText_from (x:=w) (i:=1) ⟨by decide,by omega⟩
  rw [e]
  show ((w.cps.toList.drop 1).take ((w.cps.toList.length:Int) - 1).toNat) = _
  exact List.take_of_length_le (by rw [List.length_drop]; omega)
def bg (l:List Nat):List PyData:=l.map fun c=>figD ⟨#[c]⟩
theorem jm (w:Str) (c:Nat):Txt.startswith w ⟨#[c]⟩ = decide (w.cps.toList.head? = some c):=by
 unfold Txt.startswith Builtin.Str.subAt
 obtain ⟨⟨l⟩⟩:=w
 cases l with
 | nil=>rfl
 | cons a l =>
  show (decide (0 + 1≤(a :: l).length) && ((a :: l).toArray.extract 0 (0 + 1) == #[c])) = decide ((a :: l).head? = some c)
  rw [decide_eq_true (by simp),Bool.true_and]
  have e:(a :: l).toArray.extract 0 (0 + 1) = #[a]:=by simp
  rw [e]
  by_cases h:a = c
  ·subst h; simp
  ·simp [h]
def mvC (w:Str):PyData:=if w.cps.toList.head? = some 99 then .tuple [.str "come",.tuple (bg (w.cps.toList.drop 1))]
 else if w.cps.toList.head? = some 100∧(w.cps.toList.drop 1).length = 1 then .tuple [.str "done",(bg (w.cps.toList.drop 1)).getD 0 .none] else .none
def mvR (h:Hall) (w:Str):PyData:=if w = "s" then .tuple [.str "still"] else if isMv h (mvC w) = true then mvC w else .none
def noD:PyData→Bool
 | .none=>true
 | _=>false
def badM (h:Hall):List Str→Nat→Option Nat
 | [],_=>none
 | w :: r,i=>if noD (mvR h w) = true then some i else badM h r (i + 1)
def runR (h:Hall) (x:Str):PyData ⊕ Nat:=if x = "-" then .inl (.tuple []) else match badM h (Txt.split x " ") 0 with
 | some k=>.inr k
 | none=>.inl (.tuple ((Txt.split x " ").map (mvR h)))
def yP:SpM:=fun as K=>∃ (n:Nat) (w:Str),as = [.imm (.str w)]∧AT n w∧n≤1000000∧K (.imm (.tuple (bg w.cps.toList))) []
def ym:SpM:=fun as K=>∃ (n:Nat) (h:Hall) (w:Str),as = [.imm h.d,.imm (.str w)]∧h.Ok∧AT n w∧n≤60∧K (.imm (mvR h w)) []
def FW (n:Nat) (ws:List Str):Prop:=∀ w∈ws,AT n w
theorem uz (l:List Nat):∀ d∈bg l,Gd 9 d:=fun d hd=>by
 obtain ⟨c,_,rfl⟩:=List.mem_map.mp hd
 exact sG _
theorem qx (w:Str):(figD w).depth = 0∧ms (figD w)≤13∧wd (figD w) = 0:=by
 unfold figD
 split
 ·exact ⟨rfl,by simp only [ms]; decide,rfl⟩
 ·exact ⟨rfl,by simp only [ms]; decide,rfl⟩
theorem yL {x y:PyData}:wd (.tuple [x,y]) = max 2 (max (wd x) (max (wd y) 0)):=by rw [yF]; rfl
structure MvK (d:PyData):Prop where
 g:Gd 9 d
 p:d.depth≤3
 m:ms d≤5000
 w:wd d≤60
theorem Gw {n:Nat} {w:Str} (hw:AT n w) (hn:n≤60):MvK (mvC w):=by
 have hl:(w.cps.toList.drop 1).length≤60:=by
  have h1:w.cps.toList.length≤n:=hw.len
  rw [List.length_drop]; omega
 have hd:=qx
 unfold mvC
 split
 ·generalize w.cps.toList.drop 1 = l at hl
  refine ⟨gd_tup.mpr fun d hd=>?_,?_,?_,?_⟩
  ·simp at hd
   rcases hd with rfl | rfl
   ·exact yA (by decide +kernel) (by decide +kernel) (by decide)
   ·exact gd_tup.mpr (uz l)
  ·rw [tJ]
   have:PyData.depthAll [.str "come",.tuple (bg l)]≤1:=depthAll_le.mpr fun x hx=>by
    simp at hx
    rcases hx with rfl | rfl
    ·exact Nat.zero_le _
    ·rw [tJ]
     have:PyData.depthAll (bg l)≤0:=depthAll_le.mpr fun x hx=>by
      obtain ⟨c,_,rfl⟩:=List.mem_map.mp hx
      rw [(hd _).1]; exact Nat.le_refl _
     omega
   omega
  ·have e:msA (bg l)≤15 * l.length:=by
    clear hl
    induction l with
    | nil=>simp [bg,msA]
    | cons c l ih =>
     have h2:=(hd ⟨#[c]⟩).2.1
     show ms (figD ⟨#[c]⟩) + 2 + msA (bg l)≤_
     rw [List.length_cons]; omega
   rw [rG]; simp only [msA]; rw [rG]
   have e2:ms (.str "come")≤100:=by decide +kernel
   omega
  ·rw [yL,yF]
   have:wdA (bg l)≤0:=wdA_le.mpr fun x hx=>by
    obtain ⟨c,_,rfl⟩:=List.mem_map.mp hx
    rw [(hd _).2.2]; exact Nat.le_refl _
   have e:(bg l).length = l.length:=by simp [bg]
   have e2:wd (.str "come") = 0:=rfl
   omega
 ·split
  ·rename_i h2
   obtain ⟨c,hc⟩:=List.length_eq_one_iff.mp h2.2
   rw [hc]
   obtain ⟨z1,z2,z3⟩:=hd ⟨#[c]⟩
   show MvK (.tuple [.str "done",figD ⟨#[c]⟩])
   refine ⟨gd_tup.mpr fun d hd=>?_,?_,?_,?_⟩
   ·simp at hd
    rcases hd with rfl | rfl
    ·exact yA (by decide +kernel) (by decide +kernel) (by decide)
    ·exact sG _
   ·rw [tJ]
    have:PyData.depthAll [.str "done",figD ⟨#[c]⟩]≤1:=depthAll_le.mpr fun x hx=>by
     simp at hx
     rcases hx with rfl | rfl
     ·exact Nat.zero_le _
     ·rw [z1]; exact Nat.zero_le _
    omega
   ·rw [rG]; simp only [msA]
    have e2:ms (.str "done")≤100:=by decide +kernel
    omega
   ·rw [yL,z3]
    have e2:wd (.str "done") = 0:=rfl
    omega
  ·exact ⟨trivial,Nat.zero_le _,by simp only [ms]; decide,Nat.zero_le _⟩
def flT (h:Hall) (r:Rule) (R:List Mv) (S:List Sc):PyData:=insT "Floor" [("hall",h.d),("rule",r.d),("moves",.list (R.map Mv.d)),("scenes",.list (S.map Sc.d))]
def o1:SpI:=fun ds K=>∃ (h:Hall) (r:Rule),ds = [h.d,r.d]∧h.Ok∧K (flT h r [] [sc0 h])
def Fe:SpM:=fun as K=>∃ (h:Hall) (r:Rule) (R:List Mv) (S:List Sc) (x:Sc) (mv:Mv),as = [.tr (flT h r R (S++[x])),.imm mv.d]∧h.Ok∧r.Ok h∧x.Ok h r∧mv.Ok h∧R.length≤10000∧S.length≤10000∧K (.imm (.str (wdOf h r x mv).s)) [[flT h r (R++[mv]) (S++[x]++[x.nx h r mv])]]
theorem J3 (mv:Mv):lfD mv.d = mv.d:=by cases mv <;> rfl
theorem zW (mv:Mv):fx mv.d = some mv.d:=by cases mv <;> rfl
theorem GH (r:Rule):fx r.d = some r.d:=by cases r <;> rfl
theorem gn (R:List Mv):ce (R.map Mv.d) = some (R.map Mv.d):=by
 induction R with
 | nil=>rfl
 | cons x l ih=>show (match fx x.d,ce (l.map Mv.d) with | some d,some ds=>some (d :: ds) | _,_=>none) = _; rw [ih,zW]; rfl
theorem jy (S:List Sc):ce (S.map Sc.d) = some (S.map Sc.d):=by
 induction S with
 | nil=>rfl
 | cons x l ih=>show (match fx x.d,ce (l.map Sc.d) with | some d,some ds=>some (d :: ds) | _,_=>none) = _; rw [ih]; rfl
theorem IX (R:List Mv):(R.map Mv.d).map lfD = R.map Mv.d:=by
 rw [List.map_map]
 exact List.map_congr_left fun x _=>J3 x
theorem DG (S:List Sc):(S.map Sc.d).map lfD = S.map Sc.d:=by
 rw [List.map_map]
 exact List.map_congr_left fun x _=>rfl
theorem vc (S:List Sc) (x:Sc):ixN ((S++[x]).map Sc.d).length (-1) = some S.length∧((S++[x]).map Sc.d)[S.length]? = some x.d:=by
 constructor
 ·rw [List.length_map,List.length_append,List.length_singleton]
  unfold ixN
  rw [if_neg (by omega),if_pos (by omega)]
  congr 1
  omega
 ·rw [List.map_append,List.getElem?_append_right (by rw [List.length_map]; exact Nat.le_refl _),List.length_map,Nat.sub_self]; rfl
def yu:SpM:=fun as K=>∃ (h:Hall) (r:Rule) (R:List Mv) (S:List Sc),as = [.tr (flT h r R S)]∧K (.imm (runD R)) [[flT h r R S]]
def wF:Mv→Str
 | .come o=>("c" : Str)++Txt.join "" (o.map fig)
 | .done k=>("d" : Str)++fig k
 | .still => "s"
def ji (R:List Mv):Str:=if R = [] then "-" else Txt.join " " (R.map wF)
def Mv.Ok3 (h:Hall):Mv→Prop
 | .come o=>o.length = h.ss.length∧o.Nodup∧∀ x∈o,x < h.ss.length
 | .done k=>k < h.ss.length
 | .still=>True
theorem ml:∀ k:Nat,k < 10→(fig k).cps.toList = [48 + k]:=by decide +kernel
theorem yx:∀ ws:List Str,(Str.join "" ws).cps.toList = ws.flatMap fun w=>w.cps.toList
 | []=>by decide +kernel
 | [x]=>by show x.cps.toList = _; simp
 | x :: y :: r=>by
  show (x++("" : Str)++Str.join "" (y :: r)).cps.toList = _
  have e1:(x++("" : Str)++Str.join "" (y :: r)).cps.toList = (x++("" : Str)).cps.toList++(Str.join "" (y :: r)).cps.toList:=Array.toList_append
  have e2:(x++("" : Str)).cps.toList = x.cps.toList++("" : Str).cps.toList:=Array.toList_append
  have e3:("" : Str).cps.toList = []:=by decide +kernel
  rw [e1,e2,e3,List.append_nil,yx (y :: r),List.flatMap_cons (x:=x)]
theorem zF (ws:List Str):(Txt.join "" ws).cps.toList = ws.flatMap fun w=>w.cps.toList:=by
 have e:Txt.join "" ws = Str.join "" ws:=StrLaws.glued_eq_join _ _
 rw [e]; exact yx ws
theorem o5 {o:List Nat} (h:∀ x∈o,x < 10):(Txt.join "" (o.map fig)).cps.toList = o.map (48 + ·):=by
 rw [zF]
 induction o with
 | nil=>rfl
 | cons x o ih =>
  rw [List.map_cons,List.flatMap_cons,ml x (h x List.mem_cons_self),ih fun y hy=>h y (List.mem_cons_of_mem _ hy)]
  rfl
theorem mx {o:List Nat} (h:∀ x∈o,x < 10):(wF (.come o)).cps.toList = 99 :: o.map (48 + ·):=by
 show ((("c" : Str)++Txt.join "" (o.map fig)).cps).toList = _
 have:((("c" : Str)++Txt.join "" (o.map fig)).cps).toList = ("c" : Str).cps.toList++(Txt.join "" (o.map fig)).cps.toList:=Array.toList_append
 rw [this,o5 h]; rfl
theorem jT {k:Nat} (h:k < 10):(wF (.done k)).cps.toList = [100,48 + k]:=by
 have:((("d" : Str)++fig k).cps).toList = ("d" : Str).cps.toList++(fig k).cps.toList:=Array.toList_append
 show ((("d" : Str)++fig k).cps).toList = _
 rw [this,ml k h]; rfl
theorem yw:∀ k:Nat,k < 10→figD ⟨#[48 + k]⟩ = .int (k:Int):=fun k hk=>by
 have e:(⟨#[48 + k]⟩ : Str) = fig k:=Str.ext' (Array.toList_inj.mp (by rw [ml k hk]))
 rw [e]
 unfold figD
 rw [xu k hk]
theorem Cy {o:List Nat} (h:∀ x∈o,x < 10):bg (o.map (48 + ·)) = natD o:=by
 unfold bg natD
 rw [List.map_map]
 exact List.map_congr_left fun x hx=>yw x (h x hx)
theorem uX {o:List Nat} (nd:o.Nodup) {x:Nat} (hx:x∈o):cntD (natD o) (.int (x:Int)) = 1:=by
 unfold cntD natD
 rw [List.countP_map]
 have:((fun y=>PyData.eqv y (.int (x:Int)))∘fun (k:Nat)=>PyData.int (k:Int)) = fun k=>decide (k = x):=by
  funext k; exact bZ k x
 rw [this]
 have e:List.countP (fun k=>decide (k = x)) o = o.count x:=by
  unfold List.count
  congr 1
 rw [e]
 have h1:=List.nodup_iff_count.mp nd x
 have h2:=List.count_pos_iff.mpr hx
 omega
theorem B8 {h:Hall} {mv:Mv} (hm:mv.Ok3 h):isMv h mv.d = true:=by
 cases mv with
 | come o =>
  obtain ⟨h1,h2,h3⟩:=hm
  show isMv h (.tuple [.str "come",lnD o]) = true
  rw [kE,if_pos (by decide +kernel)]
  show isOr h (.tuple (natD o)) = true
  rw [ko,aB,decide_eq_true h1,Bool.true_and,List.all_eq_true]
  intro d hd
  obtain ⟨x,hx,rfl⟩:=List.mem_map.mp hd
  have:=h3 x hx
  rw [uX h2 hx,decide_eq_true rfl,Bool.and_true]
  show (decide ((0:Int)≤(x:Int)) && decide ((x:Int)≤(h.ss.length:Int) - 1)) = true
  rw [Bool.and_eq_true,decide_eq_true_eq,decide_eq_true_eq]
  omega
 | done k =>
  show isMv h (.tuple [.str "done",.int (k:Int)]) = true
  rw [kE,if_neg (by decide +kernel)]
  have hk:k < h.ss.length:=hm
  show (PyData.eqv (.str "done") (.str "done") && (decide ((0:Int)≤(k:Int)) && decide ((k:Int)≤(h.ss.length:Int) - 1))) = true
  rw [show PyData.eqv (.str "done") (.str "done") = true by decide +kernel,Bool.true_and,Bool.and_eq_true,decide_eq_true_eq,decide_eq_true_eq]
  omega
 | still =>
  show isMv h (.tuple [.str "still"]) = true
  rw [vF]; decide +kernel
theorem yI {h:Hall} (ho:h.Ok) {mv:Mv} (hm:mv.Ok3 h):mvR h (wF mv) = mv.d:=by
 have n4:=ho.n4
 have ok:=B8 hm
 have s1:("s" : Str).cps.toList = [115]:=by decide +kernel
 cases mv with
 | come o =>
  have h10:∀ x∈o,x < 10:=fun x hx=>by have:=hm.2.2 x hx; omega
  have e:=mx h10
  have ec:mvC (wF (.come o)) = (Mv.come o).d:=by
   unfold mvC
   rw [e,if_pos (by rfl)]
   show PyData.tuple [.str "come",.tuple (bg (o.map (48 + ·)))] = _
   rw [Cy h10]; rfl
  unfold mvR
  rw [if_neg (fun z=>by rw [z,s1] at e; cases e),ec,if_pos ok]
 | done k =>
  have hk:k < 10:=by have:k < h.ss.length:=hm; omega
  have e:=jT hk
  have ec:mvC (wF (.done k)) = (Mv.done k).d:=by
   unfold mvC
   rw [e,if_neg (fun z=>by cases z),if_pos ⟨rfl,rfl⟩]
   show PyData.tuple [.str "done",(bg [48 + k]).getD 0 .none] = _
   show PyData.tuple [.str "done",figD ⟨#[48 + k]⟩] = _
   rw [yw k hk]; rfl
  unfold mvR
  rw [if_neg (fun z=>by rw [z,s1] at e; cases e),ec,if_pos ok]
 | still=>rfl
theorem kO {h:Hall} (ho:h.Ok) {mv:Mv} (hm:mv.Ok3 h) : 32∉(wF mv).cps.toList∧AT 10 (wF mv):=by
 have n4:=ho.n4
 cases mv with
 | come o =>
  have h10:∀ x∈o,x < 10:=fun x hx=>by have:=hm.2.2 x hx; omega
  have e:=mx h10
  have hl:=hm.1
  refine ⟨fun z=>?_,⟨?_,?_⟩⟩
  ·rw [e] at z
   rcases List.mem_cons.mp z with z | z
   ·cases z
   ·obtain ⟨x,_,hx⟩:=List.mem_map.mp z
    omega
  ·show (wF (.come o)).cps.size≤10
   rw [←Array.length_toList,e,List.length_cons,List.length_map]; omega
  ·rw [←Array.all_toList,e,List.all_eq_true]
   intro x hx
   obtain rfl | hx:=List.mem_cons.mp hx
   ·decide
   ·obtain ⟨y,hy,rfl⟩:=List.mem_map.mp hx
    have:=h10 y hy
    apply decide_eq_true
    omega
 | done k =>
  have hk:k < 10:=by have:k < h.ss.length:=hm; omega
  have e:=jT hk
  refine ⟨fun z=>?_,⟨?_,?_⟩⟩
  ·rw [e] at z
   simp at z
   omega
  ·show (wF (.done k)).cps.size≤10
   rw [←Array.length_toList,e]; show 2≤10; decide
  ·rw [←Array.all_toList,e,List.all_eq_true]
   intro x hx
   simp at hx
   rcases hx with rfl | rfl
   ·decide
   ·exact decide_eq_true (by omega)
 | still=>exact ⟨by decide +kernel,⟨by decide +kernel,by decide +kernel⟩⟩
theorem jj {h:Hall} (ho:h.Ok) {R:List Mv} (hR:∀ mv∈R,mv.Ok3 h) (hne:R≠[]):Txt.split (Txt.join " " (R.map wF)) " " = R.map wF:=by
 have e1:(" " : Str) = ⟨#[32]⟩:=by decide +kernel
 have e0:Txt.join " " (R.map wF) = Str.join ⟨#[32]⟩ (R.map wF):=by rw [←e1]; exact StrLaws.glued_eq_join _ _
 rw [e0,e1]
 refine pF (c:=32) (by simpa using hne) fun x hx=>?_
 obtain ⟨mv,hm,rfl⟩:=List.mem_map.mp hx
 exact (kO ho (hR mv hm)).1
theorem se {h:Hall} (ho:h.Ok) {R:List Mv} (hR:∀ mv∈R,mv.Ok3 h):runR h (ji R) = .inl (runD R):=by
 unfold runR ji
 by_cases hne:R = []
 ·subst hne
  rw [if_pos rfl,if_pos rfl]; rfl
 ·rw [if_neg hne]
  have sp:=jj ho hR hne
  have hbad:∀ (ws:List Mv) (i:Nat),(∀ mv∈ws,mv.Ok3 h)→badM h (ws.map wF) i = none:=by
   intro ws
   induction ws with
   | nil=>intro i _; rfl
   | cons mv ws ih =>
    intro i hw
    show (if noD (mvR h (wF mv)) = true then some i else badM h (ws.map wF) (i + 1)) = none
    rw [yI ho (hw mv List.mem_cons_self),if_neg (by cases mv <;> exact fun z=>by cases z)]
    exact ih _ fun m hm=>hw m (List.mem_cons_of_mem _ hm)
  have hdash:Txt.join " " (R.map wF) ≠ "-" := fun z=>by
   have s2:Txt.split ("-" : Str) " " = [("-" : Str)]:=by decide +kernel
   rw [z,s2] at sp
   cases R with
   | nil=>exact hne rfl
   | cons mv R =>
    rw [List.map_cons] at sp
    have e:=(List.cons.inj sp).1
    have s3:("-" : Str).cps.toList = [45]:=by decide +kernel
    have ho3:=hR mv List.mem_cons_self
    cases mv with
    | come o =>
     have h10:∀ x∈o,x < 10:=fun x hx=>by have:=ho3.2.2 x hx; have:=ho.n4; omega
     have:=mx h10
     rw [←e,s3] at this
     cases this
    | done k =>
     have hk:k < 10:=by have:k < h.ss.length:=ho3; have:=ho.n4; omega
     have:=jT hk
     rw [←e,s3] at this
     cases this
    | still=>exact absurd e (by decide +kernel)
  rw [if_neg hdash,sp,hbad R 0 hR]
  show Sum.inl (PyData.tuple ((R.map wF).map (mvR h))) = _
  rw [List.map_map]
  have:R.map (mvR h∘wF) = R.map Mv.d:=List.map_congr_left fun mv hm=>yI ho (hR mv hm)
  rw [this]; rfl
theorem o3:∀ {ws:List Str},(∀ w∈ws,AT 10 w)→(ws.map (·.length)).sum≤10 * ws.length
 | [],_=>Nat.le_refl _
 | w :: ws,h=>by
  have h1:=(h w List.mem_cons_self).len
  have h2:=o3 fun x hx=>h x (List.mem_cons_of_mem _ hx)
  rw [List.map_cons,List.sum_cons,List.length_cons]
  omega
theorem jP {R:List Mv} (all:∀ w∈R.map wF,AT 10 w) (hl:R.length≤300):((R.map wF).map (·.length)).sum + (R.map wF).length≤3300:=by
 have:=o3 all
 rw [List.length_map] at this ⊢
 omega
theorem Aw {h:Hall} (ho:h.Ok) {R:List Mv} (hR:∀ mv∈R,mv.Ok3 h) (hl:R.length≤300):AT 4000 (ji R)∧FW 60 (Txt.split (ji R) " "):=by
 unfold ji
 by_cases hne:R = []
 ·rw [if_pos hne]
  refine ⟨⟨by decide +kernel,by decide +kernel⟩,fun w hw=>?_⟩
  have s2:Txt.split ("-" : Str) " " = [("-" : Str)]:=by decide +kernel
  rw [s2] at hw
  rw [List.mem_singleton.mp hw]
  exact ⟨by decide +kernel,by decide +kernel⟩
 ·rw [if_neg hne]
  have all:∀ w∈R.map wF,AT 10 w:=fun w hw=>by
   obtain ⟨mv,hm,rfl⟩:=List.mem_map.mp hw
   exact (kO ho (hR mv hm)).2
  refine ⟨(z7 (n:=3300) ⟨?_,fun w hw=>(all w hw).asc⟩).mono (by decide),?_⟩
  ·exact jP all hl
  ·rw [jj ho hR hne]
   exact fun w hw=>(all w hw).mono (by decide)
def y0:SpM:=fun as K=>∃ (o:List Nat),as = [.imm (lnD o)]∧o.length≤4∧(∀ x∈o,x < 10)∧K (.new ((o.map fig).map .str)) []
def FH:SpM:=fun as K=>∃ (h:Hall) (mv:Mv),as = [.imm mv.d]∧h.Ok∧mv.Ok3 h∧K (.imm (.str (wF mv))) []
def o2:SpM:=fun as K=>∃ (h:Hall) (R:List Mv),as = [.imm (runD R)]∧h.Ok∧(∀ mv∈R,mv.Ok3 h)∧R.length≤300∧K (.imm (.str (ji R))) []
def uy:SpM:=fun as K=>∃ (h:Hall) (R:List Mv),as = [.imm h.d,.imm (.str (ji R))]∧h.Ok∧(∀ mv∈R,mv.Ok3 h)∧R.length≤300∧K (.imm (runD R)) []
def mY:SpM:=fun as K=>∃ (t:PyData) (c:Nat) (h:Hall),as = [.tr t,.imm h.d]∧h.Ok∧TapeK c t∧c < 700000000∧∀ (R:List Mv) (t':PyData),R.length≤200→(∀ mv∈R,mv.Ok3 h)→TapeK (c + 1100) t'→K (.imm (runD R)) [[t']]
def qY:SpM:=fun as K=>∃ (t:PyData) (c:Nat) (h:Hall),as = [.tr t,.imm h.d]∧h.Ok∧TapeK c t∧c < 600000000∧∀ (R:List Mv) (t':PyData),R.length≤300→(∀ mv∈R,mv.Ok3 h)→TapeK (c + 1200) t'→K (.imm (runD R)) [[t']]
theorem Mv.Ok3.ok {h:Hall} (ho:h.Ok) {mv:Mv} (hm:mv.Ok3 h):mv.Ok h:=by
 have n1:=ho.n1
 cases mv with
 | come o=>exact ⟨fun z=>by have:=hm.1; rw [z] at this; simp at this; omega,hm.2.2,by rw [hm.1]; exact ho.n4⟩
 | done k=>exact hm
 | still=>trivial
theorem ue {o:List Nat} (h1:o.length≤4) (h2:∀ x∈o,x < 10):JoinOk "" (o.map fig) = true∧(Txt.join "" (o.map fig)).length≤4:=by
 refine ⟨PyProof.Rows.joinOk_of_weight ?_ (by decide +kernel),?_⟩
 ·have:∀ {l:List Nat},(∀ x∈l,x < 10)→((l.map fig).map (·.length)).sum≤l.length:=by
   intro l
   induction l with
   | nil=>intro _; exact Nat.le_refl _
   | cons x l ih =>
    intro hl
    have h3:=(pc (hl x List.mem_cons_self)).2.1
    have h4:=ih fun y hy=>hl y (List.mem_cons_of_mem _ hy)
    rw [List.map_cons,List.map_cons,List.sum_cons,List.length_cons,h3]
    omega
  have:=this h2
  rw [List.length_map]
  omega
 ·show (Txt.join "" (o.map fig)).cps.size≤4
  rw [←Array.length_toList,o5 h2,List.length_map]; exact h1
theorem vo {α : Type} {l:List α} {n:Nat} {x : α} (hl:l.length = n + 1) (e:l[n]? = some x):atI l (-1) = some x:=by
 unfold atI ixN
 rw [if_neg (by omega),if_pos (by rw [hl]; omega)]
 show l[((-1:Int) + (l.length:Int)).toNat]? = some x
 rw [hl,show ((-1:Int) + ((n + 1:Nat):Int)).toNat = n by omega]
 exact e
theorem Ia (o:List Nat):Txt.join "" (("c" : Str) :: o.map fig) = wF (.come o):=by
 refine uZ ?_
 have:(wF (.come o)).cps.toList = ("c" : Str).cps.toList++(Txt.join "" (o.map fig)).cps.toList:=Array.toList_append
 rw [this,zF,zF,List.flatMap_cons]
theorem xT {o:List Nat} (h1:o.length≤4) (h2:∀ x∈o,x < 10):JoinOk "" (("c" : Str) :: o.map fig) = true:=by
 refine PyProof.Rows.joinOk_of_weight ?_ (by decide +kernel)
 have:∀ {l:List Nat},(∀ x∈l,x < 10)→((l.map fig).map (·.length)).sum≤l.length:=by
  intro l
  induction l with
  | nil=>intro _; exact Nat.le_refl _
  | cons x l ih =>
   intro hl
   have h3:=(pc (hl x List.mem_cons_self)).2.1
   have h4:=ih fun y hy=>hl y (List.mem_cons_of_mem _ hy)
   rw [List.map_cons,List.map_cons,List.sum_cons,List.length_cons,h3]
   omega
 have h3:=this h2
 have h4:("c" : Str).length = 1:=by decide +kernel
 rw [List.map_cons,List.sum_cons,List.length_cons,List.length_map,h4]
 omega
theorem x6 {ws:List Str} (h:∀ w∈ws,AT 10 w):Shp 1 (.list (ws.map .str)):=vh (k:=0) fun d hd=>by
 obtain ⟨w,hw,rfl⟩:=List.mem_map.mp hd
 exact AD (h w hw).lay
theorem Bh {w:Str} (h:w∈(["come", "done", "still"]:List Str)):Fine 90 1 (.str w):=by
 refine ⟨rfl,rfl,?_,Nat.zero_le _⟩
 simp only [List.mem_cons,List.not_mem_nil,or_false] at h
 rcases h with rfl | rfl | rfl <;> decide +kernel
theorem mvF {h:Hall} (ho:h.Ok) {mv:Mv} (hm:mv.Ok2 h):Fine 210 2 mv.d:=by
 have n4:=ho.n4
 cases mv with
 | come o =>
  refine (cY (n:=90) (k:=1) (c:=2) (ds:=[.str "come",lnD o]) (fun d hd=>?_) (by exact Nat.le_refl 2)).mono (by decide) (by decide)
  obtain rfl | hd:=List.mem_cons.mp hd
  ·exact Bh (by decide +kernel)
  ·rw [List.mem_singleton.mp hd]
   exact (rQ (c:=4) (by have:=hm.2 o rfl; omega) fun x hx=>by have:=hm.1.lt x hx; omega).mono (by decide) (by decide)
 | done k =>
  refine (cY (n:=90) (k:=1) (c:=2) (ds:=[.str "done",.int (k:Int)]) (fun d hd=>?_) (by exact Nat.le_refl 2)).mono (by decide) (by decide)
  obtain rfl | hd:=List.mem_cons.mp hd
  ·exact Bh (by decide +kernel)
  ·rw [List.mem_singleton.mp hd]
   have:k < h.ss.length:=hm.1
   exact (pz (by omega)).mono (by decide) (by decide)
 | still =>
  refine (cY (n:=90) (k:=1) (c:=1) (ds:=[.str "still"]) (fun d hd=>?_) (by decide)).mono (by decide) (by decide)
  rw [List.mem_singleton.mp hd]
  exact Bh (by decide +kernel)
theorem runF {h:Hall} (ho:h.Ok) {R:List Mv} (hR:∀ mv∈R,mv.Ok2 h) (hl:R.length≤300):Fine 80000 4 (runD R):=by
 refine (cY (n:=210) (k:=2) (c:=300) (fun d hd=>?_) (by rw [List.length_map]; exact hl)).mono (by decide) (by decide)
 obtain ⟨mv,hm,rfl⟩:=List.mem_map.mp hd
 exact mvF ho (hR mv hm)
theorem Mv.Ok3.ok2 {h:Hall} (ho:h.Ok) {mv:Mv} (hm:mv.Ok3 h):mv.Ok2 h:=⟨hm.ok ho,fun o e=>by subst e; exact hm.1⟩
section
variable {P:Program} {w:World} {K:PySem.W.Frag} {mg:Str→Option Value} {base:Heap}
theorem qw (T:Bl K mg) (D:DefM K mg "is_whole" i9 ["thing"]):FnM P w K mg base "is_whole" 1 1 yZ:=by
 refine aG D qt rfl (nN:=1) rfl (by decide) ?ar fun cdv A outer s H E f hr=>⟨_,(aa (ac (kM (nc (mv' 0) Ac T.isinstance T.int qR) (jS (BF (nc (mv' 0) vn T.isinstance T.bool Bu)))))),?_⟩
 case ar=>rintro as Kc ⟨z,d,rfl,_⟩; rfl
 rintro as Kc hl ⟨z,d,rfl,hd,k⟩
 have hnd:=Iu hd
 refine ag (MSt.mk [some (.imm d)] [] 0) rfl ?_
 walk_at "xs"
 cases d with
 | int i=>rw [if_pos (show fInt (tyR (L2.R.imm (PyData.int i))) = true from rfl)]; walk_at "xs"; exact k
 | bool i=>rw [if_pos (show fInt (tyR (L2.R.imm (PyData.bool i))) = true from rfl)]; walk_at "xs"; exact k
 | none=>rw [if_neg (show ¬ fInt (tyR (L2.R.imm PyData.none)) = true by decide +kernel)]; exact k
 | str x=>rw [if_neg (show ¬ fInt (tyR (L2.R.imm (PyData.str x))) = true by show ¬ fInt "str" = true; decide +kernel)]; exact k
 | list x=>rw [if_neg (show ¬ fInt (tyR (L2.R.imm (PyData.list x))) = true by show ¬ fInt "list" = true; decide +kernel)]; exact k
 | tuple x=>rw [if_neg (show ¬ fInt (tyR (L2.R.imm (PyData.tuple x))) = true by show ¬ fInt "tuple" = true; decide +kernel)]; exact k
 | dict x=>exact hd.elim
theorem gi (T:Bl K mg) (D:DefM K mg "is_whole_within" cc ["thing", "least", "most"]) (Gis_whole:FnM P w K mg base "is_whole" 1 1 yZ):FnM P w K mg base "is_whole_within" 2 3 Fv:=by
 refine aG D fE rfl (nN:=3) rfl (by decide) ?ar fun cdv A outer s H E f hr=>⟨_,(aa (ac (kM (mf' Gis_whole (hr.mono (by decide)) (mc' (mv' 0) mn')) (jS (tu yp yp (mv' 1) (mv' 0) (mv' 2)))))),?_⟩
 case ar=>rintro as Kc ⟨z,d,a,b,rfl,_⟩; rfl
 rintro as Kc hl ⟨z,d,a,b,rfl,hd,k⟩
 refine ag (MSt.mk [some (.imm d),some (.imm (.int a)),some (.imm (.int b))] [] 0) rfl ?_
 walk_at "xs"
 refine ⟨z,d,rfl,hd,?_⟩
 walk_at "xx"
 cases d with
 | int i =>
  rw [if_pos (show isWh (PyData.int i) = true from rfl)]
  walk_at "xs"
  refine aA (fun h=>?_) (fun h=>?_)
  ·walk_at "xs"
   rw [show inW a b (.int i) = decide (i≤b) by simp [inW,h]] at k
   exact k
  ·rw [show inW a b (.int i) = false by simp [inW,h]] at k
   exact k
 | bool i=>rw [if_neg (show ¬ isWh (PyData.bool i) = true by simp [isWh])]; exact k
 | none=>rw [if_neg (show ¬ isWh PyData.none = true by simp [isWh])]; exact k
 | str x=>rw [if_neg (show ¬ isWh (PyData.str x) = true by simp [isWh])]; exact k
 | list x=>rw [if_neg (show ¬ isWh (PyData.list x) = true by simp [isWh])]; exact k
 | tuple x=>rw [if_neg (show ¬ isWh (PyData.tuple x) = true by simp [isWh])]; exact k
 | dict x=>exact hd.elim
theorem kj (T:Bl K mg) (D:DefM K mg "is_tuple_of" dG ["thing", "many"]):FnM P w K mg base "is_tuple_of" 1 2 rZ:=by
 refine aG D j7 rfl (nN:=2) rfl (by decide) ?ar fun cdv A outer s H E f hr=>⟨_,(aa (ac (kM (nc (mv' 0) rj T.isinstance T.tuple b0) (jS (gm (aI hr.units) (ay aP (by rfl) T.len b5 (mc' (mv' 0) mn')) (mv' 1) (az _)))))),?_⟩
 case ar=>rintro as Kc ⟨z,d,n,rfl,_⟩; rfl
 rintro as Kc hl ⟨z,d,n,rfl,hd,k⟩
 have hnd:=Iu hd
 refine ag (MSt.mk [some (.imm d),some (.imm (.int (n:Int)))] [] 0) rfl ?_
 walk_at "xs"
 rw [FZ]
 cases e:Av d with
 | false =>
  refine bP ?_
  rw [zR e] at k
  exact k
 | true =>
  cases d with
  | tuple x =>
   refine b6 ?_
   walk_at "xs"
   rw [show tupN n (.tuple x) = decide ((x.length:Int) = (n:Int)) by unfold tupN; exact decide_eq_decide.mpr (by omega)] at k
   exact k
  | _=>cases e
theorem lS (T:Bl K mg) (D:DefM K mg "is_figures" eh ["word"]):FnM P w K mg base "is_figures" 1 1 u4:=by
 refine aG D scis_figures rfl (nN:=2) rfl (by decide) ?ar fun cdv A outer s H E f hr=>⟨_,(mz' (aE (ap (aI hr.units) (mv' 0) ae (az _)) (aa (ac fb)) aq)
   (mz' (bT (tX (mv' 0)) (ad (i:=1) scis_figures.nd rfl (Or.inl rfl)) (aa (aE (ap p9 (mv' 1) (nq T.c_FIGURES (by rfl)) (by with_unfolding_all rfl)) (aa (ac fb)) aq)) PassesOwn.never)
   (aa (ac fb)))),?_⟩
 case ar=>rintro as Kc ⟨w,rfl,_⟩; rfl
 rintro as Kc hl ⟨w,rfl,h1,ha,k⟩
 obtain ⟨c,rfl⟩:=Gn h1
 have hc:c < 128:=asc_iff.mp ha.asc c (by simp)
 refine ag (MSt.mk [some (.imm (.str ⟨#[c]⟩)),none] [] 0) rfl ?_
 walk_at "xs"
 refine aA (fun z=>by rw [z] at h1; exact absurd h1 (by decide +kernel)) (fun _=>?_)
 walk_at "xs"
 refine yt ?_
 walk_at "xs"
 refine ⟨⟨#[c]⟩,rfl,ha.asc,?_⟩
 rw [show m7 ⟨#[c]⟩ = [.str ⟨#[c]⟩] from rfl]
 rw [←yd c hc] at k
 refine bi (fun i m=>∃ a,m = MSt.mk [some (.imm (.str ⟨#[c]⟩)),a] [] 0∧(i = 0∨inS ⟨#[c]⟩ "0123456789" = true)) ⟨none,rfl,.inl rfl⟩ ?_ ?_
 ·rintro i d m e n ⟨a,rfl,_⟩
  obtain rfl:d = .str ⟨#[c]⟩:=by
   cases i with
   | zero=>exact (Option.some.inj e).symm
   | succ i=>cases e
  walk_at "xs"
  refine Jg ?_
  walk_at "xs"
  cases q:inS ⟨#[c]⟩ "0123456789" with
  | true =>
   walk_at "xs"
   exact ⟨_,rfl,.inr rfl⟩
  | false =>
   walk_at "xs"
   rw [q] at k
   exact k
 ·rintro m n ⟨a,rfl,h⟩
  rcases h with h | h
  ·cases h
  ·walk_at "xs"
   rw [h] at k
   exact k
theorem ka (T:Bl K mg) (D:DefM K mg "read_figure" dv ["word"]) (Gis_figures:FnM P w K mg base "is_figures" 1 1 u4):FnM P w K mg base "read_figure" 2 1 yk:=by
 refine aG D km rfl (nN:=1) rfl (by decide) ?ar fun cdv A outer s H E f hr=>⟨_,(mz' (aE (EW.pt (j8 (ap (aI hr.units) (ay aP (by rfl) T.len b5 (mc' (mv' 0) mn')) mh' (az _)) (ie (cz (mf' Gis_figures (hr.mono (by decide)) (mc' (mv' 0) mn')))))) (aa (ac (aM qm (by rfl) T.int qR (mc' (mv' 0) mn')))) aq)
   (aa (ac c9))),?_⟩
 case ar=>rintro as Kc ⟨n,w,rfl,_⟩; rfl
 rintro as Kc hl ⟨n,w,rfl,ha,hn,k⟩
 have hln:=ha.len
 refine ag (MSt.mk [some (.imm (.str w))] [] 0) rfl ?_
 walk_at "xs"
 refine ⟨by rw [sizeLine_eq]; omega,?_⟩
 walk_at "xs"
 refine aA (fun h1=>?_) (fun h1=>?_)
 ·walk_at "xs"
  have h1':w.length = 1:=by omega
  refine ⟨w,rfl,h1',⟨by omega,ha.asc⟩,?_⟩
  walk_at "xx"
  cases q:figN w with
  | some p =>
   obtain ⟨rfl,hp⟩:=il q
   rw [show figD (fig p) = .int (p:Int) by unfold figD; rw [q]] at k
   rw [if_pos (show (some p).isSome = true from rfl)]
   walk_at "xs"
   refine Dm (pc hp).2.2.2.2.1 (by omega) ?_
   walk_at "xs"
   exact k
  | none =>
   rw [show figD w = .none by unfold figD; rw [q]] at k
   rw [if_neg (show ¬ (none:Option Nat).isSome = true by decide)]
   walk_at "xs"
   exact k
 ·walk_at "xs"
  have:figN w = none:=by
   cases q:figN w with
   | none=>rfl
   | some p=>exact absurd (vO (by rw [q]; rfl)) (by omega)
  rw [show figD w = .none by unfold figD; rw [this]] at k
  exact k
theorem sm (T:Bl K mg) (D:DefM K mg "is_less" kb ["one", "other"]):FnM P w K mg base "is_less" 1 2 yi:=by
 refine aG D sn rfl (nN:=2) rfl (by decide) ?ar fun cdv A outer s H E f hr=>⟨_,(aa (ac (gm lw (af bI (am (mv' 0) mh') (am (mv' 1) mh')) (af bI (am (mv' 1) mh') (am (mv' 0) mh')) (az _)))),?_⟩
 case ar=>rintro as Kc ⟨a,b,c,d,rfl,_⟩; rfl
 rintro as Kc hl ⟨a,b,c,d,rfl,ha,hb,hc,hd,k⟩
 refine ag (MSt.mk [some (.imm (.tuple [.int a,.int b])),some (.imm (.tuple [.int c,.int d]))] [] 0) rfl ?_
 walk_at "xs"
 have e:decide ((a:Int) * (d:Int) < (c:Int) * (b:Int)) = decide (a * d < c * b):=by
  rw [←Int.natCast_mul,←Int.natCast_mul]
  exact decide_eq_decide.mpr Int.ofNat_lt
 rw [e]
 exact k
theorem r8 (T:Bl K mg) (D:DefM K mg "is_line" jY ["hall", "thing"]) (Gis_whole_within:FnM P w K mg base "is_whole_within" 2 3 Fv):FnM P w K mg base "is_line" 3 2 uE:=by
 refine aG D sj rfl (nN:=2) rfl (by decide) ?ar fun cdv A outer s H E f hr=>⟨_,(aa (ac (mf' Gis_whole_within (hr.mono (by decide)) (mc' (mv' 1) (mc' mh' (mc' (af uu (ay aP (by rfl) T.len b5 (mc' (am (mv' 0) mh') mn')) mh') mn')))))),?_⟩
 case ar=>rintro as Kc ⟨z,h,d,rfl,_⟩; rfl
 rintro as Kc hl ⟨z,h,d,rfl,ho,hd,k⟩
 refine ag (MSt.mk [some (.imm (.tuple [.tuple [.int h.a,.int h.b],.tuple (h.ss.map Srv.d),.bool h.mv])),some (.imm d)] [] 0) rfl ?_
 walk_at "xs"
 rw [List.length_map]
 refine ⟨z,d,_,_,rfl,hd,?_⟩
 walk_at "xx"
 exact k
theorem gW (T:Bl K mg) (D:DefM K mg "place_of_lines" cy ["hall", "lines"]):FnM P w K mg base "place_of_lines" 1 2 uW:=by
 refine aG D scplace_of_lines rfl (nN:=5) rfl (by decide) ?ar fun cdv A outer s H E f hr=>⟨_,(mz' (ai (i:=2) scplace_of_lines.nd rfl (Or.inl rfl) mh')
   (mz' (bT (CJ T.zip (mc' (mv' 1) (mc' (am (mv' 0) mh') mn'))) (bt (n:=2) (ah (ad (i:=3) scplace_of_lines.nd rfl (Or.inl rfl)) (ah (ad (i:=4) scplace_of_lines.nd rfl (Or.inl rfl)) a9))) (aa (ai (i:=2) scplace_of_lines.nd rfl (Or.inl rfl) (af aF (af bI (mv' 2) (af aF (am (mv' 4) mh') mh')) (mv' 3)))) PassesOwn.never)
   (aa (ac (mv' 2))))),?_⟩
 case ar=>rintro as Kc ⟨h,l,rfl,_⟩; rfl
 rintro as Kc hl ⟨h,l,rfl,ho,hL,k⟩
 refine ag (MSt.mk [some (.imm (.tuple [.tuple [.int h.a,.int h.b],.tuple (h.ss.map Srv.d),.bool h.mv])),some (.imm (.tuple (natD l))),none,none,none] [] 0) rfl ?_
 walk_at "xs"
 refine ⟨true,_,true,_,rfl,rfl,?_⟩
 refine bi (fun i m=>∃ a b,m = MSt.mk [some (.imm (.tuple [.tuple [.int h.a,.int h.b],.tuple (h.ss.map Srv.d),.bool h.mv])),some (.imm (.tuple (natD l))),some (.imm (.int (M7.placeF 0 (h.rs.take i) (l.take i):Nat))),a,b] [] 0) ⟨none,none,rfl⟩ ?_ ?_
 ·rintro i d m e n ⟨a,b,rfl⟩
  obtain ⟨a1,b1,e1,e2,rfl⟩:=BI e
  obtain ⟨x,ex,rfl,hi⟩:=gmap e1
  obtain ⟨s,es,rfl,hj⟩:=gmap e2
  have r6:=(ho.ok s (List.mem_of_getElem? es)).r6
  rw [M7.placeF_take (Hall.rs_get es) ex]
  dsimp only [Srv.d]
  walk_at "xs"
  ·rfl
  walk_at "xs"
  generalize M7.placeF 0 (h.rs.take i) (l.take i) = P
  have ec:(P:Int) * ((s.r:Int) + 1) + (x:Int) = ((P * (s.r + 1) + x:Nat):Int):=by
   rw [Int.natCast_add,Int.natCast_mul,Int.natCast_add]; rfl
  rw [ec]
  exact ⟨_,_,rfl⟩
 ·rintro m n ⟨a,b,rfl⟩
  have e1:min (natD l).length (h.ss.map Srv.d).length = l.length:=by rw [aB,List.length_map]; have:=hL.1; omega
  rw [dg,e1]
  have e2:h.rs.take l.length = h.rs:=by rw [hL.1,←h.rsl]; exact List.take_length
  rw [e2,List.take_length]
  walk_at "xs"
  exact k
theorem h7 (T:Bl K mg) (D:DefM K mg "first_shortest" cx ["lines", "order"]):FnM P w K mg base "first_shortest" 1 2 jK:=by
 refine aG D scfirst_shortest rfl (nN:=4) rfl (by decide) ?ar fun cdv A outer s H E f hr=>⟨_,(mz' (ai (i:=2) scfirst_shortest.nd rfl (Or.inl rfl) (am (mv' 1) mh'))
   (mz' (bT (bG (mv' 1)) (ad (i:=3) scfirst_shortest.nd rfl (Or.inl rfl)) (aa (aE (ap lw (am (mv' 0) (mv' 3)) (am (mv' 0) (mv' 2)) (az _)) (aa (ai (i:=2) scfirst_shortest.nd rfl (Or.inl rfl) (mv' 3))) aq)) PassesOwn.never)
   (aa (ac (mv' 2))))),?_⟩
 case ar=>rintro as Kc ⟨l,o,rfl,_⟩; rfl
 rintro as Kc hl ⟨l,o,rfl,hO,k⟩
 obtain ⟨o0,os,rfl,h0⟩:=hO.cons
 refine ag (MSt.mk [some (.imm (.tuple (natD l))),some (.imm (.tuple (natD (o0 :: os)))),none,none] [] 0) rfl ?_
 walk_at "xs"
 refine bM (bc (j:=0) (ba rfl)) ?_
 walk_at "xs"
 refine bi (fun i m=>∃ a,m = MSt.mk [some (.imm (.tuple (natD l))),some (.imm (.tuple (natD (o0 :: os)))),some (.imm (.int (M7.pick (cw l) o0 ((o0 :: os).take i):Nat))),a] [] 0) ⟨none,rfl⟩ ?_ ?_
 ·rintro i d m e n ⟨a,rfl⟩
  obtain ⟨j,ej,rfl,hi⟩:=gmap e
  have hj:=hO.lt j (List.mem_of_getElem? ej)
  have hb:M7.pick (cw l) o0 ((o0 :: os).take i) < l.length:=iM hO i
  have et:(o0 :: os).take (i + 1) = (o0 :: os).take i++[j]:=by rw [List.take_add_one,ej]; rfl
  rw [et,M7.pick_app]
  generalize M7.pick (cw l) o0 ((o0 :: os).take i) = b at hb
  walk_at "xs"
  refine bM (bc (ba (getN rfl hj))) ?_
  walk_at "xs"
  refine bM (bc (ba (getN rfl hb))) ?_
  walk_at "xs"
  refine aA (fun h=>?_) (fun h=>?_)
  ·walk_at "xs"
   rw [if_pos (show cw l j b = true from decide_eq_true (by omega))]
   exact ⟨_,rfl⟩
  ·walk_at "xs"
   rw [if_neg (show ¬ cw l j b = true by unfold cw; rw [decide_eq_true_eq]; omega)]
   exact ⟨_,rfl⟩
 ·rintro m n ⟨a,rfl⟩
  rw [aB,List.take_length]
  walk_at "xs"
  exact k
theorem sR (T:Bl K mg) (D:DefM K mg "wait_at" ki ["hall", "lines", "line"]):FnM P w K mg base "wait_at" 1 3 y4:=by
 refine aG D scwait_at rfl (nN:=5) rfl (by decide) ?ar fun cdv A outer s H E f hr=>⟨_,(mz' (cR (am (am (am (mv' 0) mh') (mv' 2)) mh') (bt (n:=2) (ah (ad (i:=3) scwait_at.nd rfl (Or.inl rfl)) (ah (ad (i:=4) scwait_at.nd rfl (Or.inl rfl)) a9))))
   (aa (ac (aw (mc' (af bI (af aF (am (mv' 1) (mv' 2)) mh') (mv' 4)) (mc' (mv' 3) mn')))))),?_⟩
 case ar=>rintro as Kc ⟨h,l,j,rfl,_⟩; rfl
 rintro as Kc hl ⟨h,l,j,rfl,ho,hL,hj,k⟩
 obtain ⟨s,es,ea,eb,hs⟩:=h.srv hj
 have so:=ho.ok s hs
 have b2:=so.b2
 rw [ea,eb] at k
 have el:=getN hL.1 hj
 refine ag (MSt.mk [some (.imm (.tuple [.tuple [.int h.a,.int h.b],.tuple (h.ss.map Srv.d),.bool h.mv])),some (.imm (.tuple (natD l))),some (.imm (.int (j:Int))),none,none] [] 0) rfl ?_
 walk_at "xs"
 refine bM (d:=s.d) (bc (by rw [List.getElem?_map,es]; rfl)) ?_
 dsimp only [Srv.d]
 walk_at "xs"
 ·rfl
 walk_at "xs"
 refine bM (bc (ba el)) ?_
 walk_at "xs"
 have e:(((l.getD j 0:Nat):Int) + 1) * (s.b:Int) = (((l.getD j 0 + 1) * s.b:Nat):Int):=by
  rw [Int.natCast_mul,Int.natCast_add]; rfl
 rw [e]
 exact k
theorem gQ (T:Bl K mg) (D:DefM K mg "first_quickest" cE ["hall", "lines", "order"]) (Gwait_at:FnM P w K mg base "wait_at" 1 3 y4) (Gis_less:FnM P w K mg base "is_less" 1 2 yi):FnM P w K mg base "first_quickest" 2 3 jq:=by
 refine aG D scfirst_quickest rfl (nN:=7) rfl (by decide) ?ar fun cdv A outer s H E f hr=>⟨_,(mz' (ai (i:=3) scfirst_quickest.nd rfl (Or.inl rfl) (am (mv' 2) mh'))
   (mz' (ai (i:=4) scfirst_quickest.nd rfl (Or.inl rfl) (mf' Gwait_at (hr.mono (by decide)) (mc' (mv' 0) (mc' (mv' 1) (mc' (mv' 3) mn')))))
   (mz' (bT (bG (mv' 2)) (ad (i:=5) scfirst_quickest.nd rfl (Or.inl rfl)) (mz' (ai (i:=6) scfirst_quickest.nd rfl (Or.inl rfl) (mf' Gwait_at (hr.mono (by decide)) (mc' (mv' 0) (mc' (mv' 1) (mc' (mv' 5) mn')))))
   (aa (aE (cz (mf' Gis_less (hr.mono (by decide)) (mc' (mv' 6) (mc' (mv' 4) mn')))) (aa (mm (i:=3) (j:=4) scfirst_quickest.nd rfl rfl (by decide) rfl rfl (mc' (mv' 5) (mc' (mv' 6) mn')) rfl)) aq))) PassesOwn.never)
   (aa (ac (mv' 3)))))),?_⟩
 case ar=>rintro as Kc ⟨h,l,o,rfl,_⟩; rfl
 rintro as Kc hl ⟨h,l,o,rfl,ho,hL,hO,k⟩
 obtain ⟨o0,os,rfl,h0⟩:=hO.cons
 have bd:∀ j,j < h.ss.length→(l.getD j 0 + 1) * h.bn j < 1000000000000∧h.an j < 1000000000000:=fun j hj=>by
  obtain ⟨s,es,ea,eb,hs⟩:=h.srv hj
  have so:=ho.ok s hs
  have h6:=hL.le ho _ (List.mem_of_getElem? (getN hL.1 hj))
  rw [ea,eb]
  have:=so.a2
  have:(l.getD j 0 + 1) * s.b≤7 * 1000000:=Nat.mul_le_mul (by omega) (by have:=so.b2; omega)
  omega
 refine ag (MSt.mk [some (.imm h.d),some (.imm (.tuple (natD l))),some (.imm (.tuple (natD (o0 :: os)))),none,none,none,none] [] 0) rfl ?_
 walk_at "xs"
 refine bM (bc (j:=0) (ba rfl)) ?_
 walk_at "xs"
 refine ⟨h,l,o0,rfl,ho,hL,h0,?_⟩
 walk_at "xx"
 refine bi (fun i m=>∃ a b,m = MSt.mk [some (.imm h.d),some (.imm (.tuple (natD l))),some (.imm (.tuple (natD (o0 :: os)))),some (.imm (.int (M7.pick (cb h l) o0 ((o0 :: os).take i):Nat))),some (.imm (frD ((l.getD (M7.pick (cb h l) o0 ((o0 :: os).take i)) 0 + 1) * h.bn (M7.pick (cb h l) o0 ((o0 :: os).take i)):Nat) (h.an (M7.pick (cb h l) o0 ((o0 :: os).take i)):Nat))),a,b] [] 0) ⟨none,none,rfl⟩ ?_ ?_
 ·rintro i d m e n ⟨a,b,rfl⟩
  obtain ⟨j,ej,rfl,hi⟩:=gmap e
  have hj:=hO.lt j (List.mem_of_getElem? ej)
  have hb:M7.pick (cb h l) o0 ((o0 :: os).take i) < h.ss.length:=iM hO i
  have et:(o0 :: os).take (i + 1) = (o0 :: os).take i++[j]:=by rw [List.take_add_one,ej]; rfl
  rw [et,M7.pick_app]
  generalize M7.pick (cb h l) o0 ((o0 :: os).take i) = b at hb
  walk_at "xs"
  refine ⟨h,l,j,rfl,ho,hL,hj,?_⟩
  walk_at "xx"
  obtain ⟨b1,b2⟩:=bd j hj
  obtain ⟨b3,b4⟩:=bd b hb
  refine ⟨_,_,_,_,rfl,b1,b2,b3,b4,?_⟩
  walk_at "xx"
  refine aA (fun q=>?_) (fun q=>?_)
  ·walk_at "xs"
   rw [if_pos (show cb h l j b = true from decide_eq_true q)]
   exact ⟨_,_,rfl⟩
  ·walk_at "xs"
   rw [if_neg (show ¬ cb h l j b = true by unfold cb; rw [decide_eq_true_eq]; exact q)]
   exact ⟨_,_,rfl⟩
 ·rintro m n ⟨a,b,rfl⟩
  rw [aB,List.take_length]
  walk_at "xs"
  exact k
theorem qL (T:Bl K mg) (D:DefM K mg "sent_to" kg ["hall", "rule", "stand", "order"]) (Gfirst_shortest:FnM P w K mg base "first_shortest" 1 2 jK) (Gfirst_quickest:FnM P w K mg base "first_quickest" 2 3 jq) (Gplace_of_lines:FnM P w K mg base "place_of_lines" 1 2 uW):FnM P w K mg base "sent_to" 3 4 ou:=by
 refine aG D scsent_to rfl (nN:=7) rfl (by decide) ?ar fun cdv A outer s H E f hr=>⟨_,(mz' (cR (mv' 2) (bt (n:=2) (ah (ad (i:=4) scsent_to.nd rfl (Or.inl rfl)) (ah (ad (i:=5) scsent_to.nd rfl (Or.inl rfl)) a9))))
   (mz' (ai (i:=6) scsent_to.nd rfl (Or.inl rfl) (am (mv' 1) mh'))
   (mz' (aE (ap (aI hr.units) (mv' 6) ae (az _)) (aa (ac (am (mv' 3) mh'))) aq)
   (mz' (aE (ap (aI hr.units) (mv' 6) ae (az _)) (aa (ac (mv' 5))) aq)
   (mz' (aE (ap (aI hr.units) (mv' 6) ae (az _)) (aa (ac (mf' Gfirst_shortest (hr.mono (by decide)) (mc' (mv' 4) (mc' (cB (bV c6 (mv' 3) cn (cp mh'))) mn'))))) aq)
   (mz' (aE (ap (aI hr.units) (mv' 6) ae (az _)) (aa (ac (mf' Gfirst_shortest (hr.mono (by decide)) (mc' (mv' 4) (mc' (mv' 3) mn'))))) aq)
   (mz' (aE (ap (aI hr.units) (mv' 6) ae (az _)) (aa (ac (mf' Gfirst_quickest (hr.mono (by decide)) (mc' (mv' 0) (mc' (mv' 4) (mc' (mv' 3) mn')))))) aq)
   (aa (ac (am (am (mv' 1) mh') (mf' Gplace_of_lines (hr.mono (by decide)) (mc' (mv' 0) (mc' (mv' 4) mn'))))))))))))),?_⟩
 case ar=>rintro as Kc ⟨h,r,l,t,o,rfl,_⟩; rfl
 rintro as Kc hl ⟨h,r,l,t,o,rfl,ho,hr0,hL,hO,k⟩
 have hll:=hL.1
 have hO':Ord l.length o:=by rw [hll]; exact hO
 cases r with
 | random =>
  refine ag (MSt.mk [some (.imm h.d),some (.imm (.tuple [.str "random"])),some (.imm (.tuple [lnD l,.int (t:Int)])),some (.imm (.tuple (natD o))),none,none,none] [] 0) rfl ?_
  walk_at "xs"
  ·rfl
  walk_at "xs"
  refine aA (fun _=>?_) (fun z=>(z rfl).elim)
  obtain ⟨o0,os,rfl,h0⟩:=hO.cons
  walk_at "xs"
  refine bM (bc (j:=0) (ba rfl)) ?_
  walk_at "xs"
  exact k
 | turns =>
  refine ag (MSt.mk [some (.imm h.d),some (.imm (.tuple [.str "turns"])),some (.imm (.tuple [lnD l,.int (t:Int)])),some (.imm (.tuple (natD o))),none,none,none] [] 0) rfl ?_
  walk_at "xs"
  ·rfl
  walk_at "xs"
  refine aA (fun z=>absurd z (by decide +kernel)) (fun _=>?_)
  walk_at "xs"
  refine aA (fun _=>?_) (fun z=>(z rfl).elim)
  walk_at "xs"
  exact k
 | two =>
  refine ag (MSt.mk [some (.imm h.d),some (.imm (.tuple [.str "two"])),some (.imm (.tuple [lnD l,.int (t:Int)])),some (.imm (.tuple (natD o))),none,none,none] [] 0) rfl ?_
  walk_at "xs"
  ·rfl
  walk_at "xs"
  refine aA (fun z=>absurd z (by decide +kernel)) (fun _=>?_)
  walk_at "xs"
  refine aA (fun z=>absurd z (by decide +kernel)) (fun _=>?_)
  walk_at "xs"
  refine aA (fun _=>?_) (fun z=>(z rfl).elim)
  walk_at "xs"
  have e:cutD (natD o) none (some 2) = natD (o.take 2):=by
   rw [show (2:Int) = ((2:Nat):Int) from rfl,ug]; simp [natD]
  rw [e]
  obtain ⟨o0,os,rfl,h0⟩:=hO.cons
  refine ⟨l,(o0 :: os).take 2,rfl,⟨by simp,fun k hk=>hO'.lt k (List.mem_of_mem_take hk),by rw [List.length_take]; omega⟩,?_⟩
  walk_at "xn"
  exact k
 | least =>
  refine ag (MSt.mk [some (.imm h.d),some (.imm (.tuple [.str "least"])),some (.imm (.tuple [lnD l,.int (t:Int)])),some (.imm (.tuple (natD o))),none,none,none] [] 0) rfl ?_
  walk_at "xs"
  ·rfl
  walk_at "xs"
  refine aA (fun z=>absurd z (by decide +kernel)) (fun _=>?_)
  walk_at "xs"
  refine aA (fun z=>absurd z (by decide +kernel)) (fun _=>?_)
  walk_at "xs"
  refine aA (fun z=>absurd z (by decide +kernel)) (fun _=>?_)
  walk_at "xs"
  refine aA (fun _=>?_) (fun z=>(z rfl).elim)
  walk_at "xs"
  refine ⟨l,o,rfl,hO',?_⟩
  walk_at "xn"
  exact k
 | quick =>
  refine ag (MSt.mk [some (.imm h.d),some (.imm (.tuple [.str "quick"])),some (.imm (.tuple [lnD l,.int (t:Int)])),some (.imm (.tuple (natD o))),none,none,none] [] 0) rfl ?_
  walk_at "xs"
  ·rfl
  walk_at "xs"
  refine aA (fun z=>absurd z (by decide +kernel)) (fun _=>?_)
  walk_at "xs"
  refine aA (fun z=>absurd z (by decide +kernel)) (fun _=>?_)
  walk_at "xs"
  refine aA (fun z=>absurd z (by decide +kernel)) (fun _=>?_)
  walk_at "xs"
  refine aA (fun z=>absurd z (by decide +kernel)) (fun _=>?_)
  walk_at "xs"
  refine aA (fun _=>?_) (fun z=>(z rfl).elim)
  walk_at "xs"
  refine ⟨h,l,o,rfl,ho,hL,hO,?_⟩
  walk_at "xn"
  exact k
 | told ps =>
  refine ag (MSt.mk [some (.imm h.d),some (.imm (.tuple [.str "told",.tuple (natD ps)])),some (.imm (.tuple [lnD l,.int (t:Int)])),some (.imm (.tuple (natD o))),none,none,none] [] 0) rfl ?_
  walk_at "xs"
  ·rfl
  walk_at "xs"
  refine aA (fun z=>absurd z (by decide +kernel)) (fun _=>?_)
  walk_at "xs"
  refine aA (fun z=>absurd z (by decide +kernel)) (fun _=>?_)
  walk_at "xs"
  refine aA (fun z=>absurd z (by decide +kernel)) (fun _=>?_)
  walk_at "xs"
  refine aA (fun z=>absurd z (by decide +kernel)) (fun _=>?_)
  walk_at "xs"
  refine aA (fun z=>absurd z (by decide +kernel)) (fun _=>?_)
  walk_at "xs"
  refine ⟨h,l,rfl,ho,hL,?_⟩
  walk_at "xn"
  have hlt:M7.placeF 0 h.rs l < ps.length:=by rw [hr0.1,M7.allR_cnt]; exact M7.place_lt hL.fits
  refine bM (bc (ba (getN rfl hlt))) ?_
  exact k
theorem jQ (T:Bl K mg) (D:DefM K mg "first_stand" du ["hall"]):FnM P w K mg base "first_stand" 1 1 tw:=by
 refine aG D kG rfl (nN:=1) rfl (by decide) ?ar fun cdv A outer s H E f hr=>⟨_,(aa (ac (aw (mc' (af bI (aw (mc' mh' mn')) (ay aP (by rfl) T.len b5 (mc' (am (mv' 0) mh') mn'))) (mc' mh' mn'))))),?_⟩
 case ar=>rintro as Kc ⟨h,rfl,_⟩; rfl
 rintro as Kc hl ⟨h,rfl,ho,k⟩
 have n1:=ho.n1
 have n4:=ho.n4
 refine ag (MSt.mk [some (.imm (.tuple [.tuple [.int h.a,.int h.b],.tuple (h.ss.map Srv.d),.bool h.mv]))] [] 0) rfl ?_
 walk_at "xs"
 rw [List.length_map]
 refine yl (by omega) (by omega) (by simp; omega) ?_
 walk_at "xs"
 have e:(List.replicate ((h.ss.length:Nat):Int).toNat [PyData.int 0]).flatten = natD (zer h):=by
  rw [Int.toNat_natCast]; simp [zer,natD]
 rw [e]
 exact k
theorem qB (T:Bl K mg) (D:DefM K mg "is_order" iW ["hall", "thing"]) (Gis_tuple_of:FnM P w K mg base "is_tuple_of" 1 2 rZ) (Gis_line:FnM P w K mg base "is_line" 3 2 uE):FnM P w K mg base "is_order" 4 2 yH:=by
 refine aG D scis_order rfl (nN:=3) rfl (by decide) ?ar fun cdv A outer s H E f hr=>⟨_,(mz' (aE (iC (cz (mf' Gis_tuple_of (hr.mono (by decide)) (mc' (mv' 1) (mc' (ay aP (by rfl) T.len b5 (mc' (am (mv' 0) mh') mn')) mn'))))) (aa (ac fb)) aq)
   (mz' (bT (bG (mv' 1)) (ad (i:=2) scis_order.nd rfl (Or.inl rfl)) (aa (aE (EW.pt (iX (iC (cz (mf' Gis_line (hr.mono (by decide)) (mc' (mv' 0) (mc' (mv' 2) mn'))))) (j4 (ap (jG hr.units) (sY PySem.F.slot_tuple_count PySem.F.type_tuple_count (pJ hr.units) (mv' 1) (mc' (mv' 2) mn')) mh' (az _))))) (aa (ac fb)) aq)) PassesOwn.never)
   (aa (ac fb)))),?_⟩
 case ar=>rintro as Kc ⟨z,h,d,rfl,_⟩; rfl
 rintro as Kc hl ⟨z,h,d,rfl,ho,hd,hdp,k⟩
 refine ag (MSt.mk [some (.imm (.tuple [.tuple [.int h.a,.int h.b],.tuple (h.ss.map Srv.d),.bool h.mv])),some (.imm d),none] [] 0) rfl ?_
 walk_at "xs"
 rw [List.length_map]
 refine ⟨z,d,h.ss.length,rfl,hd,?_⟩
 walk_at "xx"
 cases e:tupN h.ss.length d with
 | false =>
  rw [if_pos (c:=(!false) = true) rfl]
  walk_at "xs"
  rw [yh h e] at k
  exact k
 | true =>
  rw [if_neg (show ¬ (!true) = true by decide)]
  obtain ⟨ds,rfl,hdl⟩:=Jq e
  have hg:=gd_tup.mp hd
  have hdd:PyData.depthAll ds + 1≤50:=hdp
  have hde:=fun x hx=>depthAll_le.mp (Nat.le_refl (PyData.depthAll ds)) x hx
  have hall0:isOr h (.tuple ds) = ds.all fun x=>inW 0 ((h.ss.length:Int) - 1) x && decide (cntD ds x = 1):=by rw [ko,decide_eq_true hdl,Bool.true_and]
  rw [hall0] at k
  walk_at "xs"
  refine bi (fun i m=>∃ a,m = MSt.mk [some (.imm h.d),some (.imm (.tuple ds)),a] [] 0∧(ds.take i).all (fun x=>inW 0 ((h.ss.length:Int) - 1) x && decide (cntD ds x = 1)) = true) ⟨none,rfl,rfl⟩ ?_ ?_
  ·rintro i d m e n ⟨a,rfl,hall⟩
   have hdm:=List.mem_of_getElem? e
   have bad:(inW 0 ((h.ss.length:Int) - 1) d && decide (cntD ds d = 1)) = false→Kc (.imm (.bool false)) []:=fun hb=>by
    rw [List.all_eq_false.mpr ⟨d,hdm,by rw [hb]; exact Bool.false_ne_true⟩] at k
    exact k
   walk_at "xs"
   refine ⟨z,h,d,rfl,ho,hg d hdm,?_⟩
   walk_at "xx"
   cases q:inW 0 ((h.ss.length:Int) - 1) d with
   | false =>
    rw [if_pos (c:=(!false) = true) rfl]
    walk_at "xs"
    exact bad (by rw [q]; rfl)
   | true =>
    rw [if_neg (show ¬ (!true) = true by decide)]
    walk_at "xs"
    refine wn (k:=50) (k':=50) ((hg d hdm).shp.mono (by have:=hde d hdm; omega)) (fun y hy=>(hg y hy).shp.mono (by have:=hde y hy; omega)) (by decide) ?_
    walk_at "xs"
    refine aA (fun hc=>?_) (fun hc=>?_)
    ·walk_at "xs"
     refine bad ?_
     rw [q,Bool.true_and]
     exact decide_eq_false fun z=>hc (by show ((cntD ds d:Nat):Int) = 1; rw [z]; rfl)
    ·walk_at "xs"
     refine ⟨_,rfl,?_⟩
     have hc1:cntD ds d = 1:=by
      have:((cntD ds d:Nat):Int) = 1:=Classical.not_not.mp hc
      omega
     rw [List.take_add_one,e,List.all_append,hall]
     simp [q,hc1]
  ·rintro m n ⟨a,rfl,hall⟩
   rw [List.take_length] at hall
   rw [hall] at k
   walk_at "xs"
   exact k
theorem tP (T:Bl K mg) (D:DefM K mg "is_move" jV ["hall", "thing"]) (Gis_tuple_of:FnM P w K mg base "is_tuple_of" 1 2 rZ) (Gis_order:FnM P w K mg base "is_order" 4 2 yH) (Gis_line:FnM P w K mg base "is_line" 3 2 uE):FnM P w K mg base "is_move" 5 2 yR:=by
 refine aG D uF rfl (nN:=2) rfl (by decide) ?ar fun cdv A outer s H E f hr=>⟨_,(mz' (aE (cz (mf' Gis_tuple_of (hr.mono (by decide)) (mc' (mv' 1) (mc' mh' mn')))) (aa (ac (gm (aI hr.units) (am (mv' 1) mh') ae (az _)))) aq)
   (mz' (aE (iC (cz (mf' Gis_tuple_of (hr.mono (by decide)) (mc' (mv' 1) (mc' mh' mn'))))) (aa (ac fb)) aq)
   (mz' (aE (ap (aI hr.units) (am (mv' 1) mh') ae (az _)) (aa (ac (mf' Gis_order (hr.mono (by decide)) (mc' (mv' 0) (mc' (am (mv' 1) mh') mn'))))) aq)
   (aa (ac (kM (gm (aI hr.units) (am (mv' 1) mh') ae (az _)) (jS (mf' Gis_line (hr.mono (by decide)) (mc' (mv' 0) (mc' (am (mv' 1) mh') mn')))))))))),?_⟩
 case ar=>rintro as Kc ⟨z,h,d,rfl,_⟩; rfl
 rintro as Kc hl ⟨z,h,d,rfl,ho,hd,hdp,hms,hwd,k⟩
 refine ag (MSt.mk [some (.imm h.d),some (.imm d)] [] 0) rfl ?_
 walk_at "xs"
 refine ⟨z,d,1,rfl,hd,?_⟩
 walk_at "xx"
 cases e:tupN 1 d with
 | true =>
  refine b6 ?_
  obtain ⟨x,rfl⟩:=zc e
  have gx:Gd z x:=by simp only [Gd,GdA] at hd; exact hd.1
  have dx:x.depth≤50:=by
   have:max x.depth 0 + 1≤50:=hdp
   omega
  walk_at "xs"
  refine x_eq rfl rfl ((gx.shp.mono dx).ok (by decide)) (by decide +kernel) ?_
  exact k
 | false =>
  refine bP ?_
  walk_at "xs"
  refine ⟨z,d,2,rfl,hd,?_⟩
  walk_at "xx"
  cases e2:tupN 2 d with
  | false =>
   rw [if_pos (c:=(!false) = true) rfl]
   walk_at "xs"
   rw [qi h e e2] at k
   exact k
  | true =>
   rw [if_neg (show ¬ (!true) = true by decide)]
   obtain ⟨x,y,rfl⟩:=zp e2
   have gx:Gd z x:=by simp only [Gd,GdA] at hd; exact hd.1
   have gy:Gd z y:=by simp only [Gd,GdA] at hd; exact hd.2.1
   have dx:x.depth≤50:=by
    have:max x.depth (max y.depth 0) + 1≤50:=hdp
    omega
   have dy:y.depth≤50:=by
    have:max x.depth (max y.depth 0) + 1≤50:=hdp
    omega
   rw [kE] at k
   walk_at "xs"
   refine x_eq rfl rfl ((gx.shp.mono dx).ok (by decide)) (by decide +kernel) ?_
   walk_at "xs"
   cases q:PyData.eqv x (.str "come") with
   | true =>
    rw [q,if_pos rfl] at k
    refine b6 ?_
    walk_at "xs"
    refine ⟨z,h,y,rfl,ho,gy,dy,?_⟩
    walk_at "xx"
    exact k
   | false =>
    rw [q,if_neg (by decide)] at k
    refine bP ?_
    walk_at "xs"
    refine x_eq rfl rfl ((gx.shp.mono dx).ok (by decide)) (by decide +kernel) ?_
    walk_at "xs"
    cases q2:PyData.eqv x (.str "done") with
    | false =>
     rw [q2] at k
     refine bP ?_
     exact k
    | true =>
     rw [q2,Bool.true_and] at k
     refine b6 ?_
     walk_at "xs"
     refine ⟨z,h,y,rfl,ho,gy,?_⟩
     walk_at "xx"
     exact k
theorem nH (T:Bl K mg) (D:DefM K mg "with_more" fG ["lines", "line", "more"]):FnM P w K mg base "with_more" 1 3 oy:=by
 refine aG D nT rfl (nN:=3) rfl (by decide) ?ar fun cdv A outer s H E f hr=>⟨_,(aa (ac (af aF (af aF (bV c6 (mv' 0) cn (cp (mv' 1))) (aw (mc' (af aF (am (mv' 0) (mv' 1)) (mv' 2)) mn'))) (bV c6 (mv' 0) (cp (af aF (mv' 1) mh')) cn)))),?_⟩
 case ar=>rintro as Kc ⟨l,j,d,x,rfl,_⟩; rfl
 rintro as Kc hl ⟨l,j,d,x,rfl,hj,hl4,hx,k⟩
 refine ag (MSt.mk [some (.imm (.tuple (natD l))),some (.imm (.int (j:Int))),some (.imm (.int d))] [] 0) rfl ?_
 walk_at "xs"
 refine bM (bc (ba (getN rfl hj))) ?_
 walk_at "xs"
 rw [hx,ug]
 refine mf (by rw [sizeLine_eq,List.length_take,aB]; simp; omega) ?_
 walk_at "xs"
 rw [show (j:Int) + 1 = ((j + 1:Nat):Int) from rfl,lU]
 refine mf (by rw [sizeLine_eq,List.length_append,List.length_take,List.length_drop,aB]; simp; omega) ?_
 walk_at "xs"
 have e:(natD l).take j++[.int (x:Int)]++(natD l).drop (j + 1) = natD (l.set j x):=by
  rw [←yc,List.set_eq_take_append_cons_drop,if_pos (by rw [aB]; exact hj)]
  simp
 rw [e]
 exact k
theorem uL (T:Bl K mg) (D:DefM K mg "come_to" j1 ["hall", "lines", "line"]) (Gwith_more:FnM P w K mg base "with_more" 1 3 oy):FnM P w K mg base "come_to" 2 3 yM:=by
 refine aG D sN rfl (nN:=3) rfl (by decide) ?ar fun cdv A outer s H E f hr=>⟨_,(mz' (aE (ap (aI hr.units) (am (mv' 1) (mv' 2)) (am (am (am (mv' 0) mh') (mv' 2)) mh') (az _)) (aa (ac (aw (mc' (mv' 1) (mc' ae mn'))))) aq)
   (aa (ac (aw (mc' (mf' Gwith_more (hr.mono (by decide)) (mc' (mv' 1) (mc' (mv' 2) (mc' mh' mn')))) (mc' ae mn')))))),?_⟩
 case ar=>rintro as Kc ⟨h,l,j,rfl,_⟩; rfl
 rintro as Kc hl ⟨h,l,j,rfl,ho,hL,hj,k⟩
 have hll:=hL.1
 have n4:=ho.n4
 obtain ⟨s,es,ea,eb,hs⟩:=h.srv hj
 have er:h.rn j = s.r:=bF (Hall.rs_get es)
 refine ag (MSt.mk [some (.imm (.tuple [.tuple [.int h.a,.int h.b],.tuple (h.ss.map Srv.d),.bool h.mv])),some (.imm (.tuple (natD l))),some (.imm (.int (j:Int)))] [] 0) rfl ?_
 walk_at "xs"
 refine bM (bc (ba (getN hll hj))) ?_
 walk_at "xs"
 refine bM (d:=s.d) (bc (by rw [List.getElem?_map,es]; rfl)) ?_
 dsimp only [Srv.d]
 walk_at "xs"
 refine aA (fun z=>?_) (fun z=>?_)
 ·walk_at "xs"
  have e:dn h l j = (l,.away):=if_pos (by rw [er]; omega)
  rw [e] at k
  exact k
 ·walk_at "xs"
  refine ⟨l,j,1,l.getD j 0 + 1,rfl,by omega,by omega,rfl,?_⟩
  walk_at "xx"
  have e:dn h l j = (l.set j (l.getD j 0 + 1),.taken):=if_neg (by rw [er]; omega)
  rw [e] at k
  exact k
theorem rz (T:Bl K mg) (D:DefM K mg "done_at" j0 ["lines", "line"]) (Gwith_more:FnM P w K mg base "with_more" 1 3 oy):FnM P w K mg base "done_at" 2 2 yy:=by
 refine aG D qX rfl (nN:=2) rfl (by decide) ?ar fun cdv A outer s H E f hr=>⟨_,(mz' (aE (ap (aI hr.units) (am (mv' 0) (mv' 1)) mh' (az _)) (aa (ac (aw (mc' (mv' 0) (mc' ae mn'))))) aq)
   (aa (ac (aw (mc' (mf' Gwith_more (hr.mono (by decide)) (mc' (mv' 0) (mc' (mv' 1) (mc' (jr gj mh') mn')))) (mc' ae mn')))))),?_⟩
 case ar=>rintro as Kc ⟨l,j,rfl,_⟩; rfl
 rintro as Kc hl ⟨l,j,rfl,hj,hl4,k⟩
 refine ag (MSt.mk [some (.imm (.tuple (natD l))),some (.imm (.int (j:Int)))] [] 0) rfl ?_
 walk_at "xs"
 refine bM (bc (ba (getN rfl hj))) ?_
 walk_at "xs"
 refine aA (fun z=>?_) (fun z=>?_)
 ·walk_at "xs"
  have e:dm l j = (l,.none):=if_pos (by omega)
  rw [e] at k
  exact k
 ·walk_at "xs"
  refine ⟨l,j,-1,l.getD j 0 - 1,rfl,hj,hl4,by omega,?_⟩
  walk_at "xx"
  have e:dm l j = (l.set j (l.getD j 0 - 1),.served):=if_neg (by omega)
  rw [e] at k
  exact k
theorem l0 (T:Bl K mg) (D:DefM K mg "next_shift" db ["hall", "lines"]):FnM P w K mg base "next_shift" 1 2 rF:=by
 refine aG D gC rfl (nN:=2) rfl (by decide) ?ar fun cdv A outer s H E f hr=>⟨_,(mz' (aE (EW.pt (iX (iC (cz (am (mv' 0) mh'))) (iX (ap (mh hr.units) mh' (mv' 1) (by with_unfolding_all rfl)) (j4 (ap lw (ay (cX rfl) (by rfl) T.max jF (mc' (mv' 1) mn')) mh' (az _)))))) (aa (ac c9)) aq)
   (aa (ac (aw (mc' (sY PySem.F.slot_tuple_index PySem.F.type_tuple_index (jA hr.units) (mv' 1) (mc' (ay (cX rfl) (by rfl) T.max jF (mc' (mv' 1) mn')) mn')) (mc' (sY PySem.F.slot_tuple_index PySem.F.type_tuple_index (jA hr.units) (mv' 1) (mc' mh' mn')) mn')))))),?_⟩
 case ar=>rintro as Kc ⟨h,l,rfl,_⟩; rfl
 rintro as Kc hl ⟨h,l,rfl,hne,hl4,k⟩
 have hints:dk (natD l) = some (l.map fun (x:Nat)=>(x:Int)):=by
  have:=de (l.map fun (x:Nat)=>(x:Int))
  rwa [List.map_map] at this
 have hnei:(l.map fun (x:Nat)=>(x:Int))≠[]:=fun z=>hne (List.map_eq_nil_iff.mp z)
 have hmax:∀ x:Int,x∈(l.map fun (x:Nat)=>(x:Int))→(∀ y∈(l.map fun (x:Nat)=>(x:Int)),y≤x)→x = (maxN l:Int):=fun x hx hy=>by
  obtain ⟨n,hn,rfl⟩:=List.mem_map.mp hx
  have h1:=m6 n hn
  have h2:=hy (maxN l:Int) (List.mem_map.mpr ⟨maxN l,fv hne,rfl⟩)
  omega
 have hin:(natD l).any (fun y=>PyData.eqv y (.int 0)) = decide (0∈l):=by
  rw [Bool.eq_iff_iff]
  rw [List.any_eq_true,decide_eq_true_eq]
  constructor
  ·rintro ⟨y,hy,e⟩
   obtain ⟨x,hx,rfl⟩:=List.mem_map.mp hy
   have e':=bZ x 0
   rw [show ((0:Nat):Int) = 0 from rfl,e] at e'
   have:x = 0:=of_decide_eq_true e'.symm
   rw [←this]; exact hx
  ·intro h0
   exact ⟨.int 0,List.mem_map.mpr ⟨0,h0,rfl⟩,bZ 0 0⟩
 refine ag (MSt.mk [some (.imm (.tuple [.tuple [.int h.a,.int h.b],.tuple (h.ss.map Srv.d),.bool h.mv])),some (.imm (.tuple (natD l)))] [] 0) rfl ?_
 walk_at "xs"
 cases hmv:h.mv with
 | false =>
  refine b6 ?_
  walk_at "xs"
  have e:bq h l = none:=if_neg (by rw [hmv]; exact fun z=>by cases z.1)
  rw [e] at k
  exact k
 | true =>
  refine bP ?_
  walk_at "xs"
  refine x_in (d:=.int 0) (ds:=natD l) rfl (.inr rfl) (d8 0) (dL l) (by decide) ?_
  walk_at "xs"
  rw [hin]
  by_cases h0 : 0∈l
  ·rw [decide_eq_true h0]
   refine bP ?_
   walk_at "xs"
   refine lA rfl hints hnei fun x hx hy=>?_
   rw [hmax x hx hy]
   walk_at "xs"
   refine aA (fun z=>?_) (fun z=>?_)
   ·walk_at "xs"
    have e:bq h l = none:=if_neg (fun q=>by have:=q.2.2; omega)
    rw [e] at k
    exact k
   ·walk_at "xs"
    refine lA rfl hints hnei fun x hx hy=>?_
    rw [hmax x hx hy]
    have s1:=dQ (fv hne)
    have s0:=dQ h0
    walk_at "xs"
    refine oq (j:=idx l (maxN l)) (k':=0) (d8 _) (dL l) (by decide) (ba s1.1) (by rw [bZ]; exact decide_eq_true rfl) (fun i y hi hy=>?_) ?_
    ·obtain ⟨z,ez,rfl,_⟩:=gmap hy
     rw [bZ]; exact decide_eq_false (s1.2 i z hi ez)
    walk_at "xs"
    refine oq (j:=idx l 0) (k':=0) (d8 _) (dL l) (by decide) (ba s0.1) (bZ 0 0) (fun i y hi hy=>?_) ?_
    ·obtain ⟨z',ez,rfl,_⟩:=gmap hy
     have:=bZ z' 0
     rw [show ((0:Nat):Int) = 0 from rfl] at this
     rw [this]; exact decide_eq_false (s0.2 i z' hi ez)
    walk_at "xs"
    have e:bq h l = some (idx l (maxN l),idx l 0):=if_pos ⟨hmv,h0,by omega⟩
    rw [e] at k
    exact k
  ·rw [decide_eq_false h0]
   refine b6 ?_
   walk_at "xs"
   have e:bq h l = none:=if_neg (fun q=>h0 q.2.1)
   rw [e] at k
   exact k
theorem ip (T:Bl K mg) (D:DefM K mg "next_shift" db ["hall", "lines"]):FnM P w K mg base "next_shift" 1 2 pk:=by
 refine aG D gC rfl (nN:=2) rfl (by decide) ?ar fun cdv A outer s H E f hr=>⟨_,(mz' (aE (EW.pt (iX (iC (cz (am (mv' 0) mh'))) (iX (ap (mh hr.units) mh' (mv' 1) (by with_unfolding_all rfl)) (j4 (ap lw (ay (cX rfl) (by rfl) T.max jF (mc' (mv' 1) mn')) mh' (az _)))))) (aa (ac c9)) aq)
   (aa (ac (aw (mc' (d5 PySem.F.slot_list_index PySem.F.type_list_index (ll hr.units) (mv' 1) (mc' (ay (cX rfl) (by rfl) T.max jF (mc' (mv' 1) mn')) mn')) (mc' (d5 PySem.F.slot_list_index PySem.F.type_list_index (ll hr.units) (mv' 1) (mc' mh' mn')) mn')))))),?_⟩
 case ar=>rintro as Kc ⟨h,l,rfl,_⟩; rfl
 rintro as Kc hl ⟨h,l,rfl,hne,hl4,k⟩
 have hints:dk (natD l) = some (l.map fun (x:Nat)=>(x:Int)):=by
  have:=de (l.map fun (x:Nat)=>(x:Int))
  rwa [List.map_map] at this
 have hnei:(l.map fun (x:Nat)=>(x:Int))≠[]:=fun z=>hne (List.map_eq_nil_iff.mp z)
 have hmax:∀ x:Int,x∈(l.map fun (x:Nat)=>(x:Int))→(∀ y∈(l.map fun (x:Nat)=>(x:Int)),y≤x)→x = (maxN l:Int):=fun x hx hy=>by
  obtain ⟨n,hn,rfl⟩:=List.mem_map.mp hx
  have h1:=m6 n hn
  have h2:=hy (maxN l:Int) (List.mem_map.mpr ⟨maxN l,fv hne,rfl⟩)
  omega
 have hin:(natD l).any (fun y=>PyData.eqv y (.int 0)) = decide (0∈l):=by
  rw [Bool.eq_iff_iff]
  rw [List.any_eq_true,decide_eq_true_eq]
  constructor
  ·rintro ⟨y,hy,e⟩
   obtain ⟨x,hx,rfl⟩:=List.mem_map.mp hy
   have e':=bZ x 0
   rw [show ((0:Nat):Int) = 0 from rfl,e] at e'
   have:x = 0:=of_decide_eq_true e'.symm
   rw [←this]; exact hx
  ·intro h0
   exact ⟨.int 0,List.mem_map.mpr ⟨0,h0,rfl⟩,bZ 0 0⟩
 refine ag (MSt.mk [some (.imm (.tuple [.tuple [.int h.a,.int h.b],.tuple (h.ss.map Srv.d),.bool h.mv])),some (.imm (.list (natD l)))] [] 0) rfl ?_
 walk_at "xs"
 cases hmv:h.mv with
 | false =>
  refine b6 ?_
  walk_at "xs"
  have e:bq h l = none:=if_neg (by rw [hmv]; exact fun z=>by cases z.1)
  rw [e] at k
  exact k
 | true =>
  refine bP ?_
  walk_at "xs"
  refine x_in (d:=.int 0) (ds:=natD l) rfl (.inl rfl) (d8 0) (dL l) (by decide) ?_
  walk_at "xs"
  rw [hin]
  by_cases h0 : 0∈l
  ·rw [decide_eq_true h0]
   refine bP ?_
   walk_at "xs"
   refine lA rfl hints hnei fun x hx hy=>?_
   rw [hmax x hx hy]
   walk_at "xs"
   refine aA (fun z=>?_) (fun z=>?_)
   ·walk_at "xs"
    have e:bq h l = none:=if_neg (fun q=>by have:=q.2.2; omega)
    rw [e] at k
    exact k
   ·walk_at "xs"
    refine lA rfl hints hnei fun x hx hy=>?_
    rw [hmax x hx hy]
    have s1:=dQ (fv hne)
    have s0:=dQ h0
    walk_at "xs"
    refine rq (j:=idx l (maxN l)) (k':=0) rfl (d8 _) (dL l) (by decide) (ba s1.1) (by rw [bZ]; exact decide_eq_true rfl) (fun i y hi hy=>?_) ?_
    ·obtain ⟨z,ez,rfl,_⟩:=gmap hy
     rw [bZ]; exact decide_eq_false (s1.2 i z hi ez)
    walk_at "xs"
    refine rq (j:=idx l 0) (k':=0) rfl (d8 _) (dL l) (by decide) (ba s0.1) (bZ 0 0) (fun i y hi hy=>?_) ?_
    ·obtain ⟨z',ez,rfl,_⟩:=gmap hy
     have:=bZ z' 0
     rw [show ((0:Nat):Int) = 0 from rfl] at this
     rw [this]; exact decide_eq_false (s0.2 i z' hi ez)
    walk_at "xs"
    have e:bq h l = some (idx l (maxN l),idx l 0):=if_pos ⟨hmv,h0,by omega⟩
    rw [e] at k
    exact k
  ·rw [decide_eq_false h0]
   refine b6 ?_
   walk_at "xs"
   have e:bq h l = none:=if_neg (fun q=>h0 q.2.1)
   rw [e] at k
   exact k
theorem sw (T:Bl K mg) (D:DefM K mg "settled" kI ["hall", "lines"]) (Gnext_shift:FnM P w K mg base "next_shift" 1 2 rF) (Gwith_more:FnM P w K mg base "with_more" 1 3 oy):FnM P w K mg base "settled" 2 2 lz:=by
 refine aG D scsettled rfl (nN:=3) rfl (by decide) ?ar fun cdv A outer s H E f hr=>⟨_,(mz' (ai (i:=2) scsettled.nd rfl (Or.inl rfl) (mf' Gnext_shift (hr.mono (by decide)) (mc' (mv' 0) (mc' (mv' 1) mn'))))
   (mz' (fy (ap jI (mv' 2) c9 (az _)) (mz' (ai (i:=1) scsettled.nd rfl (Or.inl rfl) (mf' Gwith_more (hr.mono (by decide)) (mc' (mf' Gwith_more (hr.mono (by decide)) (mc' (mv' 1) (mc' (am (mv' 2) mh') (mc' (jr gj mh') mn')))) (mc' (am (mv' 2) mh') (mc' mh' mn')))))
   (aa (ai (i:=2) scsettled.nd rfl (Or.inl rfl) (mf' Gnext_shift (hr.mono (by decide)) (mc' (mv' 0) (mc' (mv' 1) mn')))))) PassesOwn.never)
   (aa (ac (mv' 1))))),?_⟩
 case ar=>rintro as Kc ⟨h,l,rfl,_⟩; rfl
 rintro as Kc hl ⟨h,l,rfl,hne,hl4,k⟩
 refine ag (MSt.mk [some (.imm h.d),some (.imm (lnD l)),none] [] 0) rfl ?_
 walk_at "xs"
 refine ⟨h,l,rfl,hne,hl4,?_⟩
 walk_at "xx"
 refine kh (fun n m=>∃ l':List Nat,m = MSt.mk [some (.imm h.d),some (.imm (lnD l')),some (.imm (optP (bq h l')))] [] 0∧n = l'.count 0∧ca h n l' = cW h l∧l'≠[]∧l'.length≤1000) (l.count 0) ⟨l,rfl,rfl,rfl,hne,hl4⟩ ?_
 rintro n m hn ⟨l',rfl,rfl,hs,hne',hl'⟩
 walk_at "xs"
 cases e:bq h l' with
 | none =>
  refine bP ?_
  walk_at "xs"
  rw [lF e] at hs
  rw [←hs] at k
  exact k
 | some p =>
  refine b6 ?_
  obtain ⟨es,l1,l2,hc,hlen⟩:=dR e
  obtain ⟨m0,m1,m2,m3,m4⟩:=cU e
  have g1:l'.getD p.1 0 = maxN l':=bF m1
  have g2:(l'.set p.1 (maxN l' - 1)).getD p.2 0 = 0:=bF (by rw [List.getElem?_set_ne m4]; exact m3)
  dsimp only [optP]
  walk_at "xs"
  refine ⟨l',p.1,-1,maxN l' - 1,rfl,l1,hl',by omega,?_⟩
  walk_at "xx"
  refine ⟨l'.set p.1 (maxN l' - 1),p.2,1,1,rfl,by rw [List.length_set]; exact l2,by rw [List.length_set]; exact hl',by omega,?_⟩
  rw [←es]
  walk_at "xx"
  have hne2:bW l' p≠[]:=fun z=>by
   rw [z] at hlen
   exact hne' (List.eq_nil_of_length_eq_zero hlen.symm)
  refine ⟨h,bW l' p,rfl,hne2,by omega,?_⟩
  walk_at "xx"
  refine ⟨(bW l' p).count 0,by omega,bW l' p,rfl,rfl,?_,hne2,by omega⟩
  rw [←hs,←hc]
  show _ = ca h ((bW l' p).count 0 + 1) l'
  simp only [ca,e]
theorem j2 (T:Bl K mg) (D:DefM K mg "turn_behind" dF ["hall", "rule", "turn"]):FnM P w K mg base "turn_behind" 1 3 rB:=by
 refine aG D kY rfl (nN:=3) rfl (by decide) ?ar fun cdv A outer s H E f hr=>⟨_,(mz' (aE (ap (aI hr.units) (am (mv' 1) mh') ae (az _)) (aa (ac (af cJ (af aF (mv' 2) mh') (ay aP (by rfl) T.len b5 (mc' (am (mv' 0) mh') mn'))))) aq)
   (aa (ac (mv' 2)))),?_⟩
 case ar=>rintro as Kc ⟨h,r,t,rfl,_⟩; rfl
 rintro as Kc hl ⟨h,r,t,rfl,ho,k⟩
 have n1:=ho.n1
 refine ag (MSt.mk [some (.imm (.tuple [.tuple [.int h.a,.int h.b],.tuple (h.ss.map Srv.d),.bool h.mv])),some (.imm r.d),some (.imm (.int (t:Int)))] [] 0) rfl ?_
 walk_at "xs"
 refine c7 r.dc (bc (j:=0) rfl) ?_
 walk_at "xs"
 refine aA (fun z=>?_) (fun z=>?_)
 ·have hr:r = .turns:=by cases r <;> first | rfl | exact absurd z (by decide +kernel) | exact absurd (show ("told" : Str) = "turns" from z) (by decide +kernel)
  subst hr
  walk_at "xs"
  refine vD (by rw [List.length_map]; omega) ?_
  rw [List.length_map]
  exact k
 ·walk_at "xs"
  have e:qU h r t = t:=by cases r <;> first | rfl | exact absurd rfl z
  rw [e] at k
  exact k
theorem sU (T:Bl K mg) (D:DefM K mg "line_of" kH ["hall", "rule", "stand", "move"]) (Gsent_to:FnM P w K mg base "sent_to" 3 4 ou):FnM P w K mg base "line_of" 4 4 kA:=by
 refine aG D sd rfl (nN:=4) rfl (by decide) ?ar fun cdv A outer s H E f hr=>⟨_,(mz' (aE (ap (aI hr.units) (am (mv' 3) mh') ae (az _)) (aa (ac (mf' Gsent_to (hr.mono (by decide)) (mc' (mv' 0) (mc' (mv' 1) (mc' (mv' 2) (mc' (am (mv' 3) mh') mn'))))))) aq)
   (mz' (aE (ap (aI hr.units) (am (mv' 3) mh') ae (az _)) (aa (ac (am (mv' 3) mh'))) aq)
   (aa (ac c9)))),?_⟩
 case ar=>rintro as Kc ⟨h,r,l,t,mv,rfl,_⟩; rfl
 rintro as Kc hl ⟨h,r,l,t,mv,rfl,ho,hr0,hL,hm,k⟩
 cases mv with
 | come o =>
  refine ag (MSt.mk [some (.imm h.d),some (.imm r.d),some (.imm (stD l t)),some (.imm (.tuple [.str "come",lnD o]))] [] 0) rfl ?_
  walk_at "xs"
  refine aA (fun _=>?_) (fun z=>(z rfl).elim)
  walk_at "xs"
  refine ⟨h,r,l,t,o,rfl,ho,hr0,hL,hm,?_⟩
  walk_at "xn"
  exact k
 | done j =>
  refine ag (MSt.mk [some (.imm h.d),some (.imm r.d),some (.imm (stD l t)),some (.imm (.tuple [.str "done",.int (j:Int)]))] [] 0) rfl ?_
  walk_at "xs"
  refine aA (fun z=>absurd z (by decide +kernel)) (fun _=>?_)
  walk_at "xs"
  refine aA (fun _=>?_) (fun z=>(z rfl).elim)
  walk_at "xs"
  exact k
 | still =>
  refine ag (MSt.mk [some (.imm h.d),some (.imm r.d),some (.imm (stD l t)),some (.imm (.tuple [.str "still"]))] [] 0) rfl ?_
  walk_at "xs"
  refine aA (fun z=>absurd z (by decide +kernel)) (fun _=>?_)
  walk_at "xs"
  refine aA (fun z=>absurd z (by decide +kernel)) (fun _=>?_)
  walk_at "xs"
  exact k
theorem p5 (T:Bl K mg) (D:DefM K mg "moved_on" i8 ["hall", "rule", "stand", "move"]) (Gline_of:FnM P w K mg base "line_of" 4 4 kA) (Gcome_to:FnM P w K mg base "come_to" 2 3 yM) (Gturn_behind:FnM P w K mg base "turn_behind" 1 3 rB) (Gdone_at:FnM P w K mg base "done_at" 2 2 yy) (Gsettled:FnM P w K mg base "settled" 2 2 lz):FnM P w K mg base "moved_on" 5 4 uw:=by
 refine aG D scmoved_on rfl (nN:=8) rfl (by decide) ?ar fun cdv A outer s H E f hr=>⟨_,(mz' (cR (mv' 2) (bt (n:=2) (ah (ad (i:=4) scmoved_on.nd rfl (Or.inl rfl)) (ah (ad (i:=5) scmoved_on.nd rfl (Or.inl rfl)) a9))))
   (mz' (ai (i:=6) scmoved_on.nd rfl (Or.inl rfl) ae)
   (mz' (ai (i:=7) scmoved_on.nd rfl (Or.inl rfl) (mf' Gline_of (hr.mono (by decide)) (mc' (mv' 0) (mc' (mv' 1) (mc' (mv' 2) (mc' (mv' 3) mn'))))))
   (mz' (aE (ap (aI hr.units) (am (mv' 3) mh') ae (az _)) (mz' (cR (mf' Gcome_to (hr.mono (by decide)) (mc' (mv' 0) (mc' (mv' 4) (mc' (mv' 7) mn')))) (bt (n:=2) (ah (ad (i:=4) scmoved_on.nd rfl (Or.inl rfl)) (ah (ad (i:=6) scmoved_on.nd rfl (Or.inl rfl)) a9))))
   (aa (ai (i:=5) scmoved_on.nd rfl (Or.inl rfl) (mf' Gturn_behind (hr.mono (by decide)) (mc' (mv' 0) (mc' (mv' 1) (mc' (mv' 5) mn'))))))) (aa (aE (ap (aI hr.units) (am (mv' 3) mh') ae (az _)) (aa (cR (mf' Gdone_at (hr.mono (by decide)) (mc' (mv' 4) (mc' (mv' 7) mn'))) (bt (n:=2) (ah (ad (i:=4) scmoved_on.nd rfl (Or.inl rfl)) (ah (ad (i:=6) scmoved_on.nd rfl (Or.inl rfl)) a9))))) aq)))
   (aa (ac (aw (mc' (aw (mc' (mf' Gsettled (hr.mono (by decide)) (mc' (mv' 0) (mc' (mv' 4) mn'))) (mc' (mv' 5) mn'))) (mc' (mv' 6) mn'))))))))),?_⟩
 case ar=>rintro as Kc ⟨h,r,l,t,mv,rfl,_⟩; rfl
 rintro as Kc hl ⟨h,r,l,t,mv,rfl,ho,hr0,hL,hm,ht,k⟩
 have hll:=hL.1
 have n1:=ho.n1
 have n4:=ho.n4
 have ne:∀ l':List Nat,l'.length = l.length→l'≠[]:=fun l' e z=>by rw [z] at e; simp at e; omega
 cases mv with
 | come o =>
  refine ag (MSt.mk [some (.imm h.d),some (.imm r.d),some (.imm (.tuple [lnD l,.int (t:Int)])),some (.imm (.tuple [.str "come",lnD o])),none,none,none,none] [] 0) rfl ?_
  walk_at "xs"
  ·rfl
  walk_at "xs"
  refine ⟨h,r,l,t,.come o,rfl,ho,hr0,hL,hm,?_⟩
  dsimp only [xw]
  walk_at "xx"
  refine aA (fun _=>?_) (fun z=>(z rfl).elim)
  walk_at "xs"
  refine ⟨h,l,sent h r l t o,rfl,ho,hL,nV ho hr0 hL hm ht,?_⟩
  walk_at "xn"
  dsimp only [lwD]
  walk_at "xs"
  ·rfl
  walk_at "xs"
  refine ⟨h,r,t,rfl,ho,?_⟩
  walk_at "xx"
  have hlen:(dn h l (sent h r l t o)).1.length = l.length:=by unfold dn; split <;> simp
  refine ⟨h,_,rfl,ne _ hlen,by omega,?_⟩
  walk_at "xx"
  exact k
 | done j =>
  refine ag (MSt.mk [some (.imm h.d),some (.imm r.d),some (.imm (.tuple [lnD l,.int (t:Int)])),some (.imm (.tuple [.str "done",.int (j:Int)])),none,none,none,none] [] 0) rfl ?_
  walk_at "xs"
  ·rfl
  walk_at "xs"
  refine ⟨h,r,l,t,.done j,rfl,ho,hr0,hL,hm,?_⟩
  dsimp only [xw]
  walk_at "xx"
  refine aA (fun z=>absurd z (by decide +kernel)) (fun _=>?_)
  walk_at "xs"
  refine aA (fun _=>?_) (fun z=>(z rfl).elim)
  walk_at "xs"
  refine ⟨l,j,rfl,by rw [hll]; exact hm,by omega,?_⟩
  walk_at "xn"
  dsimp only [lwD]
  walk_at "xs"
  ·rfl
  walk_at "xs"
  have hlen:(dm l j).1.length = l.length:=by unfold dm; split <;> simp
  refine ⟨h,_,rfl,ne _ hlen,by omega,?_⟩
  walk_at "xx"
  exact k
 | still =>
  refine ag (MSt.mk [some (.imm h.d),some (.imm r.d),some (.imm (.tuple [lnD l,.int (t:Int)])),some (.imm (.tuple [.str "still"])),none,none,none,none] [] 0) rfl ?_
  walk_at "xs"
  ·rfl
  walk_at "xs"
  refine ⟨h,r,l,t,.still,rfl,ho,hr0,hL,hm,?_⟩
  dsimp only [xw]
  walk_at "xx"
  refine aA (fun z=>absurd z (by decide +kernel)) (fun _=>?_)
  walk_at "xs"
  refine aA (fun z=>absurd z (by decide +kernel)) (fun _=>?_)
  walk_at "xs"
  refine ⟨h,l,rfl,ne _ rfl,by omega,?_⟩
  walk_at "xx"
  exact k
theorem lp (T:Bl K mg) (D:DefM K mg "figures_of" df ["numbers"]):FnM P w K mg base "figures_of" 1 1 y0:=by
 refine aG D lC rfl (nN:=1) rfl (by decide) ?ar fun cdv A outer s H E f hr=>⟨_,(aa (ac (bu (own:=["number"]) (fr:=[]) (ps:=[]) (sc:=(ab df)) (by exact ⟨rfl,by decide +kernel,by decide +kernel,by decide +kernel,by decide +kernel⟩) (bG (mv' 0)) (fun _ _ _ _ _=>(ad (i:=0) (show List.Nodup ((["number"]:List Str)++([]:List Str)) from by decide +kernel) rfl (Or.inl rfl))) (fun _ _ _ _ _=>bz) (fun _ _ _ _ _=>(aM iz (by rfl) T.str sf (mc' (mv' 0) mn')))))),?_⟩
 case ar=>rintro as Kc ⟨o,rfl,_⟩; rfl
 rintro as Kc hl ⟨o,rfl,hlen,hx,k⟩
 refine ag (MSt.mk [some (.imm (.tuple (natD o)))] [] 0) rfl ?_
 walk_at "xs"
 refine bi (fun i m=>∃ a,m = MSt.mk [a] [((o.take i).map fig).map .str] 1) ⟨none,rfl⟩ ?_ ?_
 ·rintro i d m e n ⟨a,rfl⟩
  obtain ⟨x,ex,rfl,hi⟩:=gmap e
  have:=hx x (List.mem_of_getElem? ex)
  walk_at "xs"
  refine AA (fc (by omega)) ?_
  walk_at "xs"
  refine ⟨_,rfl,by rw [List.length_map,List.length_map,List.length_take,sizeLine_eq]; omega,some (.imm (.int (x:Int))),?_⟩
  rw [List.take_succ,ex,List.map_append,List.map_append]
  rfl
 ·rintro m n ⟨a,rfl⟩
  rw [aB,List.take_length]
  walk_at "xs"
  exact k
theorem mQ (T:Bl K mg) (D:DefM K mg "move_word" gg ["move"]) (Gfigures_of:FnM P w K mg base "figures_of" 1 1 y0):FnM P w K mg base "move_word" 2 1 FH:=by
 refine aG D m9 rfl (nN:=1) rfl (by decide) ?ar fun cdv A outer s H E f hr=>⟨_,(mz' (aE (ap (aI hr.units) (am (mv' 0) mh') ae (az _)) (aa (ac (af aF ae (iR PySem.F.slot_str_join PySem.F.type_str_join ia ae (mc' (mf' Gfigures_of (hr.mono (by decide)) (mc' (am (mv' 0) mh') mn')) mn'))))) aq)
   (mz' (aE (ap (aI hr.units) (am (mv' 0) mh') ae (az _)) (aa (ac (pV (oj ae (oj (BU (am (mv' 0) mh')) z0))))) aq)
   (aa (ac ae)))),?_⟩
 case ar=>rintro as Kc ⟨h,mv,rfl,_⟩; rfl
 rintro as Kc hl ⟨h,mv,rfl,ho,hm,k⟩
 have n4:=ho.n4
 cases mv with
 | come o =>
  refine ag (MSt.mk [some (.imm (.tuple [.str "come",lnD o]))] [] 0) rfl ?_
  walk_at "xs"
  refine aA (fun _=>?_) (fun z=>(z rfl).elim)
  walk_at "xs"
  refine x_ms ?_
  walk_at "xs"
  refine x_ss ?_
  walk_at "xs"
  have h10:∀ x∈o,x < 10:=fun x hx=>by have:=hm.2.2 x hx; omega
  have hl4:o.length≤4:=by rw [hm.1]; exact n4
  refine ⟨o,rfl,hl4,h10,?_⟩
  walk_at "xx"
  refine oO (ts:=o.map fig) rfl (ue hl4 h10).1 ?_
  refine yE (by have:=(ue hl4 h10).2; rw [sizeLine_eq,show ("c" : Str).length = 1 by decide +kernel]; omega) ?_
  exact k
 | done j =>
  have hj:j < h.ss.length:=hm
  refine ag (MSt.mk [some (.imm (.tuple [.str "done",.int (j:Int)]))] [] 0) rfl ?_
  walk_at "xs"
  refine aA (fun z=>absurd z (by decide +kernel)) (fun _=>?_)
  walk_at "xs"
  refine aA (fun _=>?_) (fun z=>(z rfl).elim)
  walk_at "xs"
  refine vT ?_
  refine qP ?_
  walk_at "xs"
  refine ⟨_,rfl,by rw [sizeLine_eq,show (Str.empty++("d" : Str)).length = 1 by decide +kernel]; omega,?_⟩
  refine qP ?_
  refine Ku ?_
  walk_at "xs"
  refine .inr ⟨_,rfl,fc (by omega),?_⟩
  have e:Str.empty++("d" : Str) = "d" := by decide +kernel
  rw [e]
  refine ⟨_,rfl,?_,?_⟩
  ·have e2:(("d" : Str)++fig j).length = 2:=by
    show ((("d" : Str)++fig j).cps).size = 2
    rw [←Array.length_toList]
    show (wF (.done j)).cps.toList.length = 2
    rw [jT (by omega)]; rfl
   show (("d" : Str)++fig j).length≤_
   rw [e2,sizeLine_eq]; omega
  refine DH ?_
  exact k
 | still =>
  refine ag (MSt.mk [some (.imm (.tuple [.str "still"]))] [] 0) rfl ?_
  walk_at "xs"
  refine aA (fun z=>absurd z (by decide +kernel)) (fun _=>?_)
  walk_at "xs"
  refine aA (fun z=>absurd z (by decide +kernel)) (fun _=>?_)
  walk_at "xs"
  exact k
theorem pQ (T:Bl K mg) (D:DefM K mg "run_text" fg ["run"]) (Gmove_word:FnM P w K mg base "move_word" 2 1 FH):FnM P w K mg base "run_text" 3 1 o2:=by
 refine aG D qu rfl (nN:=1) rfl (by decide) ?ar fun cdv A outer s H E f hr=>⟨_,(mz' (aE (ap (aI hr.units) (ay aP (by rfl) T.len b5 (mc' (mv' 0) mn')) mh' (az _)) (aa (ac (nq T.c_VOID_RUN (by rfl)))) aq)
   (aa (ac (iR PySem.F.slot_str_join PySem.F.type_str_join ia ae (mc' (bu (own:=["move"]) (fr:=[]) (ps:=[]) (sc:=(ab fg)) (by exact ⟨rfl,by decide +kernel,by decide +kernel,by decide +kernel,by decide +kernel⟩) (bG (mv' 0)) (fun _ _ _ _ _=>(ad (i:=0) (show List.Nodup ((["move"]:List Str)++([]:List Str)) from by decide +kernel) rfl (Or.inl rfl))) (fun _ _ _ _ _=>bz) (fun _ _ _ _ _=>(mf' Gmove_word (hr.mono (by decide)) (mc' (mv' 0) mn')))) mn'))))),?_⟩
 case ar=>rintro as Kc ⟨h,R,rfl,_⟩; rfl
 rintro as Kc hl ⟨h,R,rfl,ho,hR,hRl,k⟩
 refine ag (MSt.mk [some (.imm (.tuple (R.map Mv.d)))] [] 0) rfl ?_
 walk_at "xs"
 rw [List.length_map]
 refine aA (fun z=>?_) (fun z=>?_)
 ·have:R = []:=List.length_eq_zero_iff.mp (by omega)
  subst this
  walk_at "xs"
  exact k
 ·have hne:R≠[]:=fun q=>z (by rw [q]; rfl)
  have all:∀ w∈R.map wF,AT 10 w:=fun w hw=>by
   obtain ⟨mv,hm,rfl⟩:=List.mem_map.mp hw
   exact (kO ho (hR mv hm)).2
  walk_at "xs"
  refine x_ms ?_
  walk_at "xs"
  refine x_ss ?_
  walk_at "xs"
  refine bi (fun i m=>∃ a,m = MSt.mk [a] [((R.take i).map wF).map .str] 1) ⟨none,rfl⟩ ?_ ?_
  ·rintro i d m e n ⟨a,rfl⟩
   obtain ⟨mv,emv,rfl,hi⟩:=gmap e
   walk_at "xs"
   refine ⟨h,mv,rfl,ho,hR mv (List.mem_of_getElem? emv),?_⟩
   walk_at "xx"
   refine ⟨_,rfl,by rw [List.length_map,List.length_map,List.length_take,sizeLine_eq]; omega,some (.imm mv.d),?_⟩
   rw [List.take_succ,emv,List.map_append,List.map_append]
   rfl
  ·rintro m n ⟨a,rfl⟩
   rw [List.length_map,List.take_length]
   walk_at "xs"
   refine oO (ts:=R.map wF) rfl (PyProof.Rows.joinOk_of_weight (by have:=jP all hRl; omega) (by decide +kernel)) ?_
   walk_at "xs"
   have k':=k
   unfold ji at k'
   rw [if_neg hne] at k'
   exact k'
theorem jg (T:Bl K mg) (D:DefM K mg "read_figures" ck ["signs"]) (Gread_figure:FnM P w K mg base "read_figure" 2 1 yk):FnM P w K mg base "read_figures" 3 1 yP:=by
 refine aG D jc rfl (nN:=1) rfl (by decide) ?ar fun cdv A outer s H E f hr=>⟨_,(aa (ac (aM bw (by rfl) T.tuple b0 (mc' (bu (own:=["sign"]) (fr:=[]) (ps:=[]) (sc:=(ab ck)) (by exact ⟨rfl,by decide +kernel,by decide +kernel,by decide +kernel,by decide +kernel⟩) (tX (mv' 0)) (fun _ _ _ _ _=>(ad (i:=0) (show List.Nodup ((["sign"]:List Str)++([]:List Str)) from by decide +kernel) rfl (Or.inl rfl))) (fun _ _ _ _ _=>bz) (fun _ _ _ _ _=>(mf' Gread_figure (hr.mono (by decide)) (mc' (mv' 0) mn')))) mn')))),?_⟩
 case ar=>rintro as Kc ⟨n,w,rfl,_⟩; rfl
 rintro as Kc hl ⟨n,w,rfl,hw,hn,k⟩
 have hlen:w.cps.toList.length≤n:=hw.len
 refine ag (MSt.mk [some (.imm (.str w))] [] 0) rfl ?_
 walk_at "xs"
 refine yt ?_
 walk_at "xs"
 refine ⟨w,rfl,hw.asc,?_⟩
 walk_at "xn"
 refine bi (fun i m=>∃ a,m = MSt.mk [a] [bg (w.cps.toList.take i)] 1) ⟨none,rfl⟩ ?_ ?_
 ·rintro i d m e hnp ⟨a,rfl⟩
  obtain ⟨c,ec,rfl,hi⟩:=gmap e
  have hc:=asc_iff.mp hw.asc c (List.mem_of_getElem? ec)
  walk_at "xs"
  refine ⟨1,⟨#[c]⟩,rfl,⟨Nat.le_refl 1,asc_iff.mpr fun z hz=>by simp at hz; omega⟩,by decide,?_⟩
  walk_at "xx"
  refine ⟨_,rfl,by rw [sizeLine_eq]; simp [bg]; omega,some (.imm (.str ⟨#[c]⟩)),?_⟩
  unfold bg
  rw [bm _ ec]
 ·rintro m hnp ⟨a,rfl⟩
  rw [fC,show w.cps.size = w.cps.toList.length by simp,List.take_length]
  walk_at "xx"
  exact k
theorem nG (T:Bl K mg) (D:DefM K mg "read_move" gc ["hall", "word"]) (Gread_figures:FnM P w K mg base "read_figures" 3 1 yP) (Gis_move:FnM P w K mg base "is_move" 5 2 yR):FnM P w K mg base "read_move" 6 2 ym:=by
 refine aG D scread_move rfl (nN:=4) rfl (by decide) ?ar fun cdv A outer s H E f hr=>⟨_,(mz' (aE (ap (aI hr.units) (mv' 1) ae (az _)) (aa (ac (aw (mc' ae mn')))) aq)
   (mz' (ai (i:=2) scread_move.nd rfl (Or.inl rfl) (mf' Gread_figures (hr.mono (by decide)) (mc' (cB (bV vv (mv' 1) (cp mh') cn)) mn')))
   (mz' (ai (i:=3) scread_move.nd rfl (Or.inl rfl) c9)
   (mz' (aE (cz (iR PySem.F.slot_str_startswith PySem.F.type_str_startswith jo (mv' 1) (mc' ae mn'))) (aa (ai (i:=3) scread_move.nd rfl (Or.inl rfl) (aw (mc' ae (mc' (mv' 2) mn'))))) (aa (aE (EW.pt (j8 (cz (iR PySem.F.slot_str_startswith PySem.F.type_str_startswith jo (mv' 1) (mc' ae mn'))) (ie (ap (aI hr.units) (ay aP (by rfl) T.len b5 (mc' (mv' 2) mn')) mh' (az _))))) (aa (ai (i:=3) scread_move.nd rfl (Or.inl rfl) (aw (mc' ae (mc' (am (mv' 2) mh') mn'))))) aq)))
   (aa (ac (qV (cz (mf' Gis_move (hr.mono (by decide)) (mc' (mv' 0) (mc' (mv' 3) mn')))) (mv' 3) c9))))))),?_⟩
 case ar=>rintro as Kc ⟨n,h,w,rfl,_⟩; rfl
 rintro as Kc hl ⟨n,h,w,rfl,ho,hw,hn,k⟩
 have hlen:=hw.len
 refine ag (MSt.mk [some (.imm h.d),some (.imm (.str w)),none,none] [] 0) rfl ?_
 walk_at "xs"
 refine aA (fun z=>?_) (fun z=>?_)
 ·walk_at "xs"
  unfold mvR at k
  rw [if_pos z] at k
  exact k
 have e1:mvR h w = if isMv h (mvC w) = true then mvC w else .none:=if_neg z
 rw [e1] at k
 walk_at "xs"
 refine Fh (by omega) ?_
 walk_at "xs"
 refine ⟨n,tlS w,rfl,hw.slice _ _,by omega,?_⟩
 rw [Bf]
 walk_at "xx"
 have hmv:=Gw hw hn
 have c99:("c" : Str) = ⟨#[99]⟩:=by decide +kernel
 have c100:("d" : Str) = ⟨#[100]⟩:=by decide +kernel
 have key:∀ M:PyData,mvC w = M→Kc (.imm (if isMv h M = true then M else .none)) []:=fun M e=>by rw [e] at k; exact k
 refine x_ms ?_
 walk_at "xs"
 refine x_ss ?_
 walk_at "xs"
 refine pv ?_
 rw [c99,jm]
 by_cases h1:w.cps.toList.head? = some 99
 ·rw [decide_eq_true h1]
  walk_at "xs"
  refine ny ?_
  walk_at "xs"
  have e:mvC w = .tuple [.str "come",.tuple (bg (w.cps.toList.drop 1))]:=if_pos h1
  have hm:MvK (.tuple [.str "come",.tuple (bg (w.cps.toList.drop 1))]):=e▸hmv
  refine ⟨9,h,.tuple [.str "come",.tuple (bg (w.cps.toList.drop 1))],rfl,ho,hm.g,by have:=hm.p; omega,by have:=hm.m; omega,hm.w,?_⟩
  walk_at "xx"
  have q:=key _ e
  cases b:isMv h (.tuple [.str "come",.tuple (bg (w.cps.toList.drop 1))]) with
  | true =>
   rw [b,if_pos rfl] at q
   refine b6 ?_
   walk_at "xs"
   exact q
  | false =>
   rw [b,if_neg (by decide)] at q
   refine bP ?_
   walk_at "xs"
   exact q
 ·rw [decide_eq_false h1]
  have e2:mvC w = if w.cps.toList.head? = some 100∧(w.cps.toList.drop 1).length = 1 then .tuple [.str "done",(bg (w.cps.toList.drop 1)).getD 0 .none] else .none:=if_neg h1
  walk_at "xs"
  refine x_ms ?_
  walk_at "xs"
  refine x_ss ?_
  walk_at "xs"
  refine pv ?_
  rw [c100,jm]
  by_cases h2:w.cps.toList.head? = some 100
  ·rw [decide_eq_true h2]
   walk_at "xs"
   rw [show (bg (w.cps.toList.drop 1)).length = (w.cps.toList.drop 1).length by simp [bg]]
   refine aA (fun h3=>?_) (fun h3=>?_)
   ·have h3':(w.cps.toList.drop 1).length = 1:=by omega
    obtain ⟨c,hc⟩:=List.length_eq_one_iff.mp h3'
    rw [hc] at e2 ⊢
    walk_at "xs"
    refine ny ?_
    walk_at "xs"
    have e:mvC w = .tuple [.str "done",figD ⟨#[c]⟩]:=by rw [e2,if_pos ⟨h2,rfl⟩]; rfl
    have hm:MvK (.tuple [.str "done",figD ⟨#[c]⟩]):=e▸hmv
    refine ⟨9,h,.tuple [.str "done",figD ⟨#[c]⟩],rfl,ho,hm.g,by have:=hm.p; omega,by have:=hm.m; omega,hm.w,?_⟩
    walk_at "xx"
    have q:=key _ e
    cases b:isMv h (.tuple [.str "done",figD ⟨#[c]⟩]) with
    | true =>
     rw [b,if_pos rfl] at q
     refine b6 ?_
     walk_at "xs"
     exact q
    | false =>
     rw [b,if_neg (by decide)] at q
     refine bP ?_
     walk_at "xs"
     exact q
   ·walk_at "xs"
    refine ny ?_
    walk_at "xs"
    have e:mvC w = .none:=by rw [e2,if_neg fun z=>h3 (by have:=z.2; omega)]
    have hm:MvK (.none):=e▸hmv
    refine ⟨9,h,.none,rfl,ho,hm.g,by have:=hm.p; omega,by have:=hm.m; omega,hm.w,?_⟩
    walk_at "xx"
    have q:=key _ e
    cases b:isMv h (.none) with
    | true =>
     rw [b,if_pos rfl] at q
     refine b6 ?_
     walk_at "xs"
     exact q
    | false =>
     rw [b,if_neg (by decide)] at q
     refine bP ?_
     walk_at "xs"
     exact q
  ·rw [decide_eq_false h2]
   walk_at "xs"
   refine ny ?_
   walk_at "xs"
   have e:mvC w = .none:=by rw [e2,if_neg fun z=>h2 z.1]
   have hm:MvK (.none):=e▸hmv
   refine ⟨9,h,.none,rfl,ho,hm.g,by have:=hm.p; omega,by have:=hm.m; omega,hm.w,?_⟩
   walk_at "xx"
   have q:=key _ e
   cases b:isMv h (.none) with
   | true =>
    rw [b,if_pos rfl] at q
    refine b6 ?_
    walk_at "xs"
    exact q
   | false =>
    rw [b,if_neg (by decide)] at q
    refine bP ?_
    walk_at "xs"
    exact q
theorem pH (T:Bl K mg) (D:DefM K mg "read_run" iw ["hall", "text"]) (Gread_move:FnM P w K mg base "read_move" 6 2 ym):FnM P w K mg base "read_run" 7 2 uy:=by
 refine aG D scread_run rfl (nN:=6) rfl (by decide) ?ar fun cdv A outer s H E f hr=>⟨_,(mz' (aE (ap (aI hr.units) (mv' 1) (nq T.c_VOID_RUN (by rfl)) (az _)) (aa (ac (aw mn'))) aq)
   (mz' (ai (i:=2) scread_run.nd rfl (Or.inl rfl) (bH mn'))
   (mz' (bT (vP T.enumerate (mc' (cB (iR PySem.F.slot_str_split PySem.F.type_str_split rL (mv' 1) (mc' ae mn'))) mn')) (bt (n:=2) (ah (ad (i:=3) scread_run.nd rfl (Or.inl rfl)) (ah (ad (i:=4) scread_run.nd rfl (Or.inl rfl)) a9))) (mz' (ai (i:=5) scread_run.nd rfl (Or.inl rfl) (mf' Gread_move (hr.mono (by decide)) (mc' (mv' 0) (mc' (mv' 4) mn'))))
   (mz' (aE (ap BW (mv' 5) c9 (az _)) (aa sv) aq)
   (aa (cj (d5 PySem.F.slot_list_append PySem.F.type_list_append d0 (mv' 2) (mc' (mv' 5) mn')))))) PassesOwn.never)
   (aa (ac (aM bw (by rfl) T.tuple b0 (mc' (mv' 2) mn'))))))),?_⟩
 case ar=>rintro as Kc ⟨h,R,rfl,_⟩; rfl
 rintro as Kc hl ⟨h,R,rfl,ho,hR,hRl,k⟩
 obtain ⟨hx,hfw⟩:=Aw ho hR hRl
 have hrun:=se ho hR
 obtain ⟨x,ex⟩ : ∃ x,x = ji R:=⟨_,rfl⟩
 rw [←ex] at hx hfw hrun
 have k1:∀ d,runR h x = .inl d→Kc (.imm d) []:=fun d e=>by rw [hrun] at e; cases e; exact k
 have k2:∀ j,runR h x = .inr j→False:=fun j e=>by rw [hrun] at e; cases e
 rw [←ex]
 have hlen:=hx.len
 have hws:=wZ hx
 have hwl:=hws.len
 refine ag (MSt.mk [some (.imm h.d),some (.imm (.str x)),none,none,none,none] [] 0) rfl ?_
 walk_at "xs"
 refine aA (fun z=>?_) (fun z=>?_)
 ·walk_at "xs"
  exact k1 _ (if_pos z)
 have e1:runR h x = match badM h (Txt.split x " ") 0 with
  | some k=>.inr k
  | none=>.inl (.tuple ((Txt.split x " ").map (mvR h))):=if_neg z
 rw [e1] at k1 k2
 walk_at "xs"
 refine cu ?_
 walk_at "xx"
 refine x_ms ?_
 walk_at "xs"
 refine x_ss ?_
 walk_at "xs"
 refine Ah (by decide +kernel) (by omega) ?_
 generalize Txt.split x " " = ws at hfw hws hwl k1 k2
 walk_at "xs"
 refine ⟨false,_,rfl,?_⟩
 refine bi (fun i m=>∃ a b c,m = MSt.mk [some (.imm h.d),some (.imm (.str x)),some (.obj 0),a,b,c] [(ws.take i).map (mvR h)] 0∧badM h ws 0 = badM h (ws.drop i) i) ⟨none,none,none,rfl,rfl⟩ ?_ ?_
 ·rintro i d m e hnp ⟨a,b,c,rfl,hb⟩
  have hi:i < ws.length:=by have:=(List.getElem?_eq_some_iff.mp e).1; rwa [b7,List.length_map] at this
  have ew:ws[i]? = some ws[i]:=List.getElem?_eq_getElem hi
  have hdr:ws.drop i = ws[i] :: ws.drop (i + 1):=List.drop_eq_getElem_cons hi
  have haw:=hfw _ (List.getElem_mem hi)
  generalize ws[i] = wd at ew hdr haw
  rw [l9 (d:=.str wd) (by rw [List.getElem?_map,ew]; rfl)] at e
  cases e
  rw [hdr] at hb
  have hst:badM h (wd :: ws.drop (i + 1)) i = if noD (mvR h wd) = true then some i else badM h (ws.drop (i + 1)) (i + 1):=rfl
  walk_at "xs"
  ·rfl
  walk_at "xs"
  refine ⟨60,h,wd,rfl,ho,haw,by decide,?_⟩
  walk_at "xn"
  refine ky ?_
  walk_at "xn"
  have htl:((ws.take i).map (mvR h)).length≤ws.length:=by rw [List.length_map,List.length_take]; omega
  walk_at "xs"
  rw [show jk (.imm (mvR h wd)) = noD (mvR h wd) by cases mvR h wd <;> rfl]
  cases q:noD (mvR h wd) with
  | true =>
   rw [hst,q,if_pos rfl] at hb
   refine b6 ?_
   walk_at "xs"
   exact (k2 i (by rw [hb])).elim
  | false =>
   rw [hst,q,if_neg (by decide)] at hb
   refine bP ?_
   walk_at "xs"
   refine' x8 (ds:=(ws.take i).map (mvR h)) ?eb (by rw [sizeLine_eq]; omega) ?_
   case eb=>rfl
   walk_at "xn"
   rw [bm _ ew]
   exact ⟨_,_,_,rfl,hb⟩
 ·rintro m hnp ⟨a,b,c,rfl,hb⟩
  rw [b7,List.length_map,List.drop_length] at hb
  rw [b7,List.length_map,List.take_length]
  walk_at "xs"
  exact k1 _ (by rw [hb]; rfl)
theorem ik (T:Bl K mg) (D:DefM K mg "counts_behind" cP ["counts", "word"]):FnM P w K mg base "counts_behind" 1 2 CY:=by
 refine aG D sccounts_behind rfl (nN:=6) rfl (by decide) ?ar fun cdv A outer s H E f hr=>⟨_,(mz' (cR (mv' 0) (bt (n:=4) (ah (ad (i:=2) sccounts_behind.nd rfl (Or.inl rfl)) (ah (ad (i:=3) sccounts_behind.nd rfl (Or.inl rfl)) (ah (ad (i:=4) sccounts_behind.nd rfl (Or.inl rfl)) (ah (ad (i:=5) sccounts_behind.nd rfl (Or.inl rfl)) a9))))))
   (mz' (aE (ap (aI hr.units) (mv' 1) ae (az _)) (aa (ac (aw (mc' (af aF (mv' 2) mh') (mc' (af aF (mv' 3) mh') (mc' (mv' 4) (mc' (mv' 5) mn'))))))) aq)
   (mz' (aE (ap (aI hr.units) (mv' 1) ae (az _)) (aa (ac (aw (mc' (af aF (mv' 2) mh') (mc' (mv' 3) (mc' (af aF (mv' 4) mh') (mc' (mv' 5) mn'))))))) aq)
   (mz' (aE (ap (aI hr.units) (mv' 1) ae (az _)) (aa (ac (aw (mc' (mv' 2) (mc' (mv' 3) (mc' (mv' 4) (mc' (af aF (mv' 5) mh') mn'))))))) aq)
   (aa (ac (mv' 0))))))),?_⟩
 case ar=>rintro as Kc ⟨x,w,rfl,_⟩; rfl
 rintro as Kc hl ⟨x,w,rfl,k⟩
 cases w with
 | taken =>
  refine ag (MSt.mk [some (.imm (.tuple [.int (x.c:Int),.int (x.t:Int),.int (x.a:Int),.int (x.s:Int)])),some (.imm (.str "taken")),none,none,none,none] [] 0) rfl ?_
  walk_at "xs"
  ·rfl
  walk_at "xs"
  refine aA (fun _=>?_) (fun z=>(z rfl).elim)
  walk_at "xs"
  exact k
 | away =>
  refine ag (MSt.mk [some (.imm (.tuple [.int (x.c:Int),.int (x.t:Int),.int (x.a:Int),.int (x.s:Int)])),some (.imm (.str "away")),none,none,none,none] [] 0) rfl ?_
  walk_at "xs"
  ·rfl
  walk_at "xs"
  refine aA (fun z=>absurd z (by decide +kernel)) (fun _=>?_)
  walk_at "xs"
  refine aA (fun _=>?_) (fun z=>(z rfl).elim)
  walk_at "xs"
  exact k
 | served =>
  refine ag (MSt.mk [some (.imm (.tuple [.int (x.c:Int),.int (x.t:Int),.int (x.a:Int),.int (x.s:Int)])),some (.imm (.str "served")),none,none,none,none] [] 0) rfl ?_
  walk_at "xs"
  ·rfl
  walk_at "xs"
  refine aA (fun z=>absurd z (by decide +kernel)) (fun _=>?_)
  walk_at "xs"
  refine aA (fun z=>absurd z (by decide +kernel)) (fun _=>?_)
  walk_at "xs"
  refine aA (fun _=>?_) (fun z=>(z rfl).elim)
  walk_at "xs"
  exact k
 | none =>
  refine ag (MSt.mk [some (.imm (.tuple [.int (x.c:Int),.int (x.t:Int),.int (x.a:Int),.int (x.s:Int)])),some (.imm (.str "none")),none,none,none,none] [] 0) rfl ?_
  walk_at "xs"
  ·rfl
  walk_at "xs"
  refine aA (fun z=>absurd z (by decide +kernel)) (fun _=>?_)
  walk_at "xs"
  refine aA (fun z=>absurd z (by decide +kernel)) (fun _=>?_)
  walk_at "xs"
  refine aA (fun z=>absurd z (by decide +kernel)) (fun _=>?_)
  walk_at "xs"
  exact k
theorem g9 (T:Bl K mg) (D:DefM K mg "askers_settled" bx ["hall", "askers"]) (Gnext_shift:FnM P w K mg base "next_shift" 1 2 pk):FnM P w K mg base "askers_settled" 2 2 yD:=by
 refine aG D scaskers_settled rfl (nN:=5) rfl (by decide) ?ar fun cdv A outer s H E f hr=>⟨_,(mz' (ai (i:=1) scaskers_settled.nd rfl (Or.inl rfl) (aM jB (by rfl) T.list um (mc' (mv' 1) mn')))
   (mz' (ai (i:=2) scaskers_settled.nd rfl (Or.inl rfl) (mf' Gnext_shift (hr.mono (by decide)) (mc' (mv' 0) (mc' (cB (bu (own:=["line"]) (fr:=[]) (ps:=[]) (sc:=(ab bx)) (by exact ⟨rfl,by decide +kernel,by decide +kernel,by decide +kernel,by decide +kernel⟩) (bG (mv' 1)) (fun _ _ _ _ _=>(ad (i:=0) (show List.Nodup ((["line"]:List Str)++([]:List Str)) from by decide +kernel) rfl (Or.inl rfl))) (fun _ _ _ _ _=>bz) (fun _ _ _ _ _=>(ay aP (by rfl) T.len b5 (mc' (mv' 0) mn'))))) mn'))))
   (mz' (fy (ap jI (mv' 2) c9 (az _)) (mz' (cR (mv' 2) (bt (n:=2) (ah (ad (i:=3) scaskers_settled.nd rfl (Or.inl rfl)) (ah (ad (i:=4) scaskers_settled.nd rfl (Or.inl rfl)) a9))))
   (mz' (ig (cB (bV c6 (am (mv' 1) (mv' 3)) (cp (jr gj mh')) cn)) (mv' 1) (mv' 4))
   (mz' (ig (cB (bV c6 (am (mv' 1) (mv' 3)) cn (cp (jr gj mh')))) (mv' 1) (mv' 3))
   (aa (ai (i:=2) scaskers_settled.nd rfl (Or.inl rfl) (mf' Gnext_shift (hr.mono (by decide)) (mc' (mv' 0) (mc' (cB (bu (own:=["line"]) (fr:=[]) (ps:=[]) (sc:=(ab bx)) (by exact ⟨rfl,by decide +kernel,by decide +kernel,by decide +kernel,by decide +kernel⟩) (bG (mv' 1)) (fun _ _ _ _ _=>(ad (i:=0) (show List.Nodup ((["line"]:List Str)++([]:List Str)) from by decide +kernel) rfl (Or.inl rfl))) (fun _ _ _ _ _=>bz) (fun _ _ _ _ _=>(ay aP (by rfl) T.len b5 (mc' (mv' 0) mn'))))) mn')))))))) PassesOwn.never)
   (aa (ac (aM bw (by rfl) T.tuple b0 (mc' (mv' 1) mn'))))))),?_⟩
 case ar=>rintro as Kc ⟨h,A,rfl,_⟩; rfl
 rintro as Kc hl ⟨h,A,rfl,hne,h4,hsz,k⟩
 have ne_sz:∀ A':List (List Nat),A'≠[]→szs A'≠[]:=fun A' z q=>z (List.map_eq_nil_iff.mp q)
 refine ag (MSt.mk [some (.imm h.d),some (.obj 0),none,none,none] [akL A] 1) rfl ?_
 walk_at "xs"
 refine cu ?_
 walk_at "xx"
 walk_at "xn"
 refine dJ (fun i m=>∃ a,m = MSt.mk [a] [akL A,akL A,natD ((szs A).take i)] 3) ⟨none,rfl⟩ ?_ ?_ ?_
 ·rintro i m ⟨a,rfl⟩; rfl
 ·rintro i d m e n ⟨a,rfl⟩
  obtain ⟨x,ex,rfl,hi⟩:=gmap e
  dsimp only [lnD]
  walk_at "xs"
  rw [aB]
  refine ⟨_,rfl,by rw [sizeLine_eq,aB,List.length_take,c8]; omega,some (.imm (.tuple (natD x))),?_⟩
  rw [n6 ex]
  rfl
 rintro m n ⟨a,rfl⟩
 rw [f8,←c8,List.take_length]
 walk_at "xx"
 refine ⟨h,szs A,rfl,ne_sz A hne,by rw [c8]; omega,?_⟩
 walk_at "xx"
 refine kh (fun n m=>∃ (A':List (List Nat)) (b c:Option R),m = MSt.mk [some (.imm h.d),some (.obj 1),some (.imm (optP (bq h (szs A')))),b,c] [akL A,akL A'] 1∧n = (szs A').count 0∧askN h n A' = cZ h A∧A'≠[]∧A'.length = A.length) ((szs A).count 0) ⟨A,none,none,rfl,rfl,rfl,hne,rfl⟩ ?_
 rintro n m hn ⟨A',b,c,rfl,rfl,hs,hne',hl'⟩
 walk_at "xs"
 cases e:bq h (szs A') with
 | none =>
  refine bP ?_
  walk_at "xs"
  rw [ub e] at hs
  rw [←hs] at k
  exact k
 | some p =>
  refine b6 ?_
  obtain ⟨es,l1,l2,hc,hlen⟩:=dR e
  obtain ⟨m0,m1,m2,m3,m4⟩:=cU e
  rw [c8] at l1 l2
  dsimp only [optP]
  walk_at "xs"
  ·rfl
  walk_at "xs"
  refine' dE (ds:=akL A') ?ea (bc (jR l1)) ?_
  case ea=>rfl
  dsimp only [lnD]
  walk_at "xs"
  rw [qO,lx,aB]
  refine' sr (ds:=akL A') (n:=p.2) ?eb ?ec ?_
  case eb=>rfl
  case ec=>rw [f8]; exact kU l2
  rw [show PyData.tuple (natD ((A'.getD p.1 []).drop ((A'.getD p.1 []).length - 1))) = lnD ((A'.getD p.1 []).drop ((A'.getD p.1 []).length - 1)) from rfl,ke]
  walk_at "xs"
  have g2:(A'.set p.2 ((A'.getD p.1 []).drop ((A'.getD p.1 []).length - 1))).getD p.1 [] = A'.getD p.1 []:=by
   rw [List.getD_eq_getElem?_getD,List.getElem?_set_ne (Ne.symm m4),←List.getD_eq_getElem?_getD]
  have l1':p.1 < (A'.set p.2 ((A'.getD p.1 []).drop ((A'.getD p.1 []).length - 1))).length:=by rw [List.length_set]; exact l1
  refine' dE (ds:=akL (A'.set p.2 ((A'.getD p.1 []).drop ((A'.getD p.1 []).length - 1)))) ?ed (bc (jR l1')) ?_
  case ed=>rfl
  rw [g2]
  dsimp only [lnD]
  walk_at "xs"
  rw [rg,tx]
  refine' sr (ds:=akL (A'.set p.2 ((A'.getD p.1 []).drop ((A'.getD p.1 []).length - 1)))) (n:=p.1) ?ef ?eg ?_
  case ef=>rfl
  case eg=>rw [f8]; exact kU l1'
  rw [show PyData.tuple (natD (A'.getD p.1 []).dropLast) = lnD (A'.getD p.1 []).dropLast from rfl,ke,show (A'.set p.2 ((A'.getD p.1 []).drop ((A'.getD p.1 []).length - 1))).set p.1 (A'.getD p.1 []).dropLast = da A' p from rfl]
  have hl2:(da A' p).length = A'.length:=by unfold da; rw [List.length_set,List.length_set]
  have hne2:da A' p≠[]:=fun z=>by rw [z] at hl2; exact hne' (List.eq_nil_of_length_eq_zero hl2.symm)
  have hss:=qJ e
  generalize hB:da A' p = B at hl2 hne2 hss
  walk_at "xs"
  walk_at "xn"
  refine dJ (fun i m=>∃ a,m = MSt.mk [a] [akL A,akL B,natD ((szs B).take i)] 3) ⟨none,rfl⟩ ?_ ?_ ?_
  ·rintro i m ⟨a,rfl⟩; rfl
  ·rintro i d m e n ⟨a,rfl⟩
   obtain ⟨x,ex,rfl,hi⟩:=gmap e
   dsimp only [lnD]
   walk_at "xs"
   rw [aB]
   refine ⟨_,rfl,by rw [sizeLine_eq,aB,List.length_take,c8]; omega,some (.imm (.tuple (natD x))),?_⟩
   rw [n6 ex]
   rfl
  rintro m n ⟨a,rfl⟩
  rw [f8,show B.length = (szs B).length from (c8 _).symm,List.take_length]
  walk_at "xx"
  refine ⟨h,szs B,rfl,ne_sz B hne2,by rw [c8]; omega,?_⟩
  walk_at "xx"
  refine ⟨(szs B).count 0,by rw [hss]; omega,B,_,_,rfl,rfl,?_,hne2,by omega⟩
  rw [←hs,←hc,←hss]
  show _ = askN h ((szs B).count 0 + 1) A'
  simp only [askN,e,hB]
theorem iJ (T:Bl K mg) (D:DefM K mg "askers_behind" cK ["hall", "askers", "line", "word", "number"]) (Gaskers_settled:FnM P w K mg base "askers_settled" 2 2 yD):FnM P w K mg base "askers_behind" 3 5 yB:=by
 refine aG D scaskers_behind rfl (nN:=5) rfl (by decide) ?ar fun cdv A outer s H E f hr=>⟨_,(mz' (ai (i:=1) scaskers_behind.nd rfl (Or.inl rfl) (aM jB (by rfl) T.list um (mc' (mv' 1) mn')))
   (mz' (aE (ap (aI hr.units) (mv' 3) ae (az _)) (aa (ig (af aF (am (mv' 1) (mv' 2)) (aw (mc' (mv' 4) mn'))) (mv' 1) (mv' 2))) (aa (aE (ap (aI hr.units) (mv' 3) ae (az _)) (aa (ig (cB (bV c6 (am (mv' 1) (mv' 2)) (cp mh') cn)) (mv' 1) (mv' 2))) aq)))
   (aa (ac (mf' Gaskers_settled (hr.mono (by decide)) (mc' (mv' 0) (mc' (mv' 1) mn'))))))),?_⟩
 case ar=>rintro as Kc ⟨h,A,ld,j,w,num,rfl,_⟩; rfl
 rintro as Kc hl ⟨h,A,ld,j,w,num,rfl,hne,h4,hsz,hw,k⟩
 have fin:∀ (B:List (List Nat)),B.length = A.length→(∀ x∈B,x.length≤1000)→B = askB A j w num→B≠[]∧B.length≤4:=fun B e1 _ _=>⟨fun z=>by rw [z] at e1; exact hne (List.eq_nil_of_length_eq_zero e1.symm),by omega⟩
 have setl:∀ (x:List Nat),x.length≤1000→∀ y∈A.set j x,y.length≤1000:=fun x hx y hy=>by
  rcases List.mem_or_eq_of_mem_set hy with z | z
  ·have:=hsz y z; omega
  ·rw [z]; exact hx
 have gl:j < A.length→(A.getD j []).length≤900:=fun hj=>by
  rw [bF (List.getElem?_eq_getElem hj)]; exact hsz _ (List.getElem_mem hj)
 cases w with
 | taken =>
  obtain ⟨rfl,hj⟩:=hw (.inl rfl)
  have:=gl hj
  refine ag (MSt.mk [some (.imm h.d),some (.imm (.tuple (akL A))),some (.imm (.int (j:Int))),some (.imm (.str "taken")),some (.imm (.int (num:Int)))] [] 0) rfl ?_
  walk_at "xs"
  refine cu ?_
  walk_at "xx"
  refine aA (fun _=>?_) (fun z=>(z rfl).elim)
  walk_at "xs"
  refine' dE (ds:=akL A) ?ea (bc (jR hj)) ?_
  case ea=>rfl
  dsimp only [lnD]
  walk_at "xs"
  refine mf (by rw [sizeLine_eq,aB,List.length_singleton]; omega) ?_
  walk_at "xs"
  refine' sr (ds:=akL A) (n:=j) ?eb ?ec ?_
  case eb=>rfl
  case ec=>rw [f8]; exact kU hj
  rw [show PyData.tuple (natD (A.getD j [])++[.int (num:Int)]) = lnD (A.getD j []++[num]) from by unfold lnD; rw [oH]; rfl,ke]
  walk_at "xs"
  have hl2:∀ x∈A.set j (A.getD j []++[num]),x.length≤1000:=setl _ (by rw [List.length_append,List.length_singleton]; omega)
  obtain ⟨f1,f2⟩:=fin _ (List.length_set ..) hl2 rfl
  refine ⟨h,_,rfl,f1,f2,hl2,?_⟩
  walk_at "xn"
  exact k
 | served =>
  obtain ⟨rfl,hj⟩:=hw (.inr rfl)
  have:=gl hj
  refine ag (MSt.mk [some (.imm h.d),some (.imm (.tuple (akL A))),some (.imm (.int (j:Int))),some (.imm (.str "served")),some (.imm (.int (num:Int)))] [] 0) rfl ?_
  walk_at "xs"
  refine cu ?_
  walk_at "xx"
  refine aA (fun z=>absurd z (by decide +kernel)) (fun _=>?_)
  walk_at "xs"
  refine aA (fun _=>?_) (fun z=>(z rfl).elim)
  walk_at "xs"
  refine' dE (ds:=akL A) ?ea (bc (jR hj)) ?_
  case ea=>rfl
  dsimp only [lnD]
  walk_at "xs"
  rw [show (1:Int) = ((1:Nat):Int) from rfl,lU,lx]
  refine' sr (ds:=akL A) (n:=j) ?eb ?ec ?_
  case eb=>rfl
  case ec=>rw [f8]; exact kU hj
  rw [show PyData.tuple (natD ((A.getD j []).drop 1)) = lnD ((A.getD j []).drop 1) from rfl,ke]
  walk_at "xs"
  have hl2:∀ x∈A.set j ((A.getD j []).drop 1),x.length≤1000:=setl _ (by rw [List.length_drop]; omega)
  obtain ⟨f1,f2⟩:=fin _ (List.length_set ..) hl2 rfl
  refine ⟨h,_,rfl,f1,f2,hl2,?_⟩
  walk_at "xn"
  exact k
 | away =>
  refine ag (MSt.mk [some (.imm h.d),some (.imm (.tuple (akL A))),some (.imm ld),some (.imm (.str "away")),some (.imm (.int (num:Int)))] [] 0) rfl ?_
  walk_at "xs"
  refine cu ?_
  walk_at "xx"
  refine aA (fun z=>absurd z (by decide +kernel)) (fun _=>?_)
  walk_at "xs"
  refine aA (fun z=>absurd z (by decide +kernel)) (fun _=>?_)
  walk_at "xs"
  refine ⟨h,A,rfl,hne,h4,fun x hx=>by have:=hsz x hx; omega,?_⟩
  walk_at "xn"
  exact k
 | none =>
  refine ag (MSt.mk [some (.imm h.d),some (.imm (.tuple (akL A))),some (.imm ld),some (.imm (.str "none")),some (.imm (.int (num:Int)))] [] 0) rfl ?_
  walk_at "xs"
  refine cu ?_
  walk_at "xx"
  refine aA (fun z=>absurd z (by decide +kernel)) (fun _=>?_)
  walk_at "xs"
  refine aA (fun z=>absurd z (by decide +kernel)) (fun _=>?_)
  walk_at "xs"
  refine ⟨h,A,rfl,hne,h4,fun x hx=>by have:=hsz x hx; omega,?_⟩
  walk_at "xn"
  exact k
theorem j5 (T:Bl K mg) (D:DefM K mg "first_scene" dB ["hall"]) (Gfirst_stand:FnM P w K mg base "first_stand" 1 1 tw):FnM P w K mg base "first_scene" 2 1 oA:=by
 refine aG D jW rfl (nN:=1) rfl (by decide) ?ar fun cdv A outer s H E f hr=>⟨_,(aa (ac (aw (mc' (mf' Gfirst_stand (hr.mono (by decide)) (mc' (mv' 0) mn')) (mc' (aw (mc' mh' (mc' mh' (mc' mh' (mc' mh' mn'))))) (mc' (af bI (aw (mc' (aw mn') mn')) (ay aP (by rfl) T.len b5 (mc' (am (mv' 0) mh') mn'))) mn')))))),?_⟩
 case ar=>rintro as Kc ⟨h,rfl,_⟩; rfl
 rintro as Kc hl ⟨h,rfl,ho,k⟩
 have n1:=ho.n1
 have n4:=ho.n4
 refine ag (MSt.mk [some (.imm (.tuple [.tuple [.int h.a,.int h.b],.tuple (h.ss.map Srv.d),.bool h.mv]))] [] 0) rfl ?_
 walk_at "xs"
 refine ⟨h,rfl,ho,?_⟩
 walk_at "xx"
 rw [List.length_map]
 refine yl (by omega) (by omega) (by simp; omega) ?_
 walk_at "xs"
 have e:(List.replicate ((h.ss.length:Nat):Int).toNat [PyData.tuple []]).flatten = akL (List.replicate h.ss.length []):=by
  rw [Int.toNat_natCast]; simp [akL,lnD,natD]
 rw [e]
 exact k
theorem jh (T:Bl K mg) (D:DefM K mg "scene_behind" dh ["hall", "rule", "scene", "move"]) (Gline_of:FnM P w K mg base "line_of" 4 4 kA) (Gmoved_on:FnM P w K mg base "moved_on" 5 4 uw) (Gaskers_behind:FnM P w K mg base "askers_behind" 3 5 yB) (Gcounts_behind:FnM P w K mg base "counts_behind" 1 2 CY):FnM P w K mg base "scene_behind" 6 4 o6:=by
 refine aG D scscene_behind rfl (nN:=10) rfl (by decide) ?ar fun cdv A outer s H E f hr=>⟨_,(mz' (cR (mv' 2) (bt (n:=3) (ah (ad (i:=4) scscene_behind.nd rfl (Or.inl rfl)) (ah (ad (i:=5) scscene_behind.nd rfl (Or.inl rfl)) (ah (ad (i:=6) scscene_behind.nd rfl (Or.inl rfl)) a9)))))
   (mz' (ai (i:=7) scscene_behind.nd rfl (Or.inl rfl) (mf' Gline_of (hr.mono (by decide)) (mc' (mv' 0) (mc' (mv' 1) (mc' (mv' 4) (mc' (mv' 3) mn'))))))
   (mz' (cR (mf' Gmoved_on (hr.mono (by decide)) (mc' (mv' 0) (mc' (mv' 1) (mc' (mv' 4) (mc' (mv' 3) mn'))))) (bt (n:=2) (ah (ad (i:=8) scscene_behind.nd rfl (Or.inl rfl)) (ah (ad (i:=9) scscene_behind.nd rfl (Or.inl rfl)) a9))))
   (mz' (ai (i:=6) scscene_behind.nd rfl (Or.inl rfl) (mf' Gaskers_behind (hr.mono (by decide)) (mc' (mv' 0) (mc' (mv' 6) (mc' (mv' 7) (mc' (mv' 9) (mc' (am (mv' 5) mh') mn')))))))
   (aa (ac (aw (mc' (aw (mc' (mv' 8) (mc' (mf' Gcounts_behind (hr.mono (by decide)) (mc' (mv' 5) (mc' (mv' 9) mn'))) (mc' (mv' 6) mn')))) (mc' (mv' 9) mn'))))))))),?_⟩
 case ar=>rintro as Kc ⟨h,r,x,mv,rfl,_⟩; rfl
 rintro as Kc hl ⟨h,r,x,mv,rfl,ho,hr0,hx,hm,k⟩
 have hll:=hx.st.ln.1
 have n1:=ho.n1
 have n4:=ho.n4
 have hA:x.A.length = h.ss.length:=by rw [←c8,hx.sz]; exact hll
 have hk:=yj ho hr0 hx.st hm
 refine ag (MSt.mk [some (.imm h.d),some (.imm r.d),some (.imm (.tuple [stD x.l x.t,x.c.d,akD x.A])),some (.imm mv.d),none,none,none,none,none,none] [] 0) rfl ?_
 walk_at "xs"
 ·rfl
 walk_at "xs"
 refine ⟨h,r,x.l,x.t,mv,rfl,ho,hr0,hx.st.ln,hm,?_⟩
 walk_at "xx"
 refine ⟨h,r,x.l,x.t,mv,rfl,ho,hr0,hx.st.ln,hm,hx.st.tn,?_⟩
 walk_at "xn"
 dsimp only [mvD]
 walk_at "xs"
 ·rfl
 walk_at "xs"
 refine c7 (ds:=[.int (x.c.c:Int),.int (x.c.t:Int),.int (x.c.a:Int),.int (x.c.s:Int)]) rfl rfl ?_
 walk_at "xs"
 refine ⟨h,x.A,_,kOf h r x.l x.t mv,(jd h r x.l x.t mv).2.2,x.c.c,rfl,fun z=>by rw [z] at hA; simp at hA; omega,by omega,fun y hy=>?_,fun hw=>⟨?_,by omega⟩,?_⟩
 ·obtain ⟨i,hi,rfl⟩:=List.mem_iff_getElem.mp hy
  have e1:(szs x.A)[i]? = some x.A[i].length:=szs_get? (List.getElem?_eq_getElem hi)
  rw [hx.sz] at e1
  have:=hx.st.ln.le ho _ (List.mem_of_getElem? e1)
  omega
 ·cases mv with
  | come o=>rfl
  | done j=>rfl
  | still=>rcases hw with z | z <;> cases z
 walk_at "xx"
 refine ⟨x.c,(jd h r x.l x.t mv).2.2,rfl,?_⟩
 walk_at "xx"
 exact k
theorem h8 (T:Bl K mg) (D:IniD K mg "Floor" "Floor.__init__" bf ["self", "hall", "rule"]) (Gfirst_scene:FnM P w K mg base "first_scene" 2 1 oA):uH P w K mg base "Floor" 3 2 o1:=by
 refine Az D gN rfl (nN:=3) rfl (by decide) ?ar fun cdv A outer s H E f hr=>⟨_,_,(j9 T.f_Floor_hall (mv' 1) (j9 T.f_Floor_rule (mv' 2) (j9 T.f_Floor_moves (bH mn') (j9 T.f_Floor_scenes (bH (mc' (mf' Gfirst_scene (hr.mono (by decide)) (mc' (mv' 1) mn')) mn')) Bq)))),⟨by rfl,by decide⟩,?_⟩
 case ar=>rintro ds Kc ⟨h,r,rfl,_⟩; rfl
 rintro ds Kc hl ⟨h,r,rfl,ho,k⟩
 refine Bv (MSt.mk [none,some (.imm h.d),some (.imm r.d)] [] 0) rfl ?_
 walk_at "xs"
 refine ⟨h,rfl,ho,?_⟩
 dsimp only [mapR,bC]
 walk_at "xs"
 refine ⟨_,rfl,?_⟩
 cases r <;> exact k
theorem p3 (T:Bl K mg) (D:MthD K "Floor" "go" "Floor.go" cV ["self", "move"]) (Gscene_behind:FnM P w K mg base "scene_behind" 6 4 o6):jU P w K mg base "Floor" "go" 7 2 Fe:=by
 refine qM D scFloor_go rfl (nN:=4) rfl (by decide) ?ar fun cdv A outer s H E f hr=>⟨_,(mz' (cR (mf' Gscene_behind (hr.mono (by decide)) (mc' (f9 T.f_Floor_hall (mv' 0)) (mc' (f9 T.f_Floor_rule (mv' 0)) (mc' (Cp (f9 T.f_Floor_scenes (mv' 0)) (jr gj mh')) (mc' (mv' 1) mn'))))) (bt (n:=2) (ah (ad (i:=2) scFloor_go.nd rfl (Or.inl rfl)) (ah (ad (i:=3) scFloor_go.nd rfl (Or.inl rfl)) a9))))
   (mz' (cj (d5 PySem.F.slot_list_append PySem.F.type_list_append iU (f9 T.f_Floor_moves (mv' 0)) (mc' (mv' 1) mn')))
   (mz' (cj (d5 PySem.F.slot_list_append PySem.F.type_list_append iU (f9 T.f_Floor_scenes (mv' 0)) (mc' (mv' 2) mn')))
   (aa (ac (mv' 3)))))),?_⟩
 case ar=>rintro as Kc ⟨h,r,R,S,x,mv,rfl,_⟩; rfl
 rintro as Kc hl ⟨h,r,R,S,x,mv,rfl,ho,hr0,hx,hm,hR,hS,k⟩
 refine ag (MSt.mk [some (.at 0 []),some (.imm mv.d),none,none] [[flT h r R (S++[x])]] 1) rfl ?_
 walk_at "xs"
 refine yU (t':=r.d) (d:=r.d) rfl rfl rfl rfl (GH r) ?_
 walk_at "xs"
 refine Cg rfl rfl (vc S x).1 (vc S x).2 ?_
 walk_at "xs"
 refine ⟨h,r,x,mv,rfl,ho,hr0,hx,hm,?_⟩
 walk_at "xx"
 ·rfl
 walk_at "xs"
 refine ⟨⟨_,gn R⟩,?_⟩
 walk_at "xs"
 refine ls (p:=[3]) rfl rfl (gn R) rfl (by rw [List.length_map,sizeLine_eq]; omega) ?_
 have e1:setT (flT h r R (S++[x])) [3] (.list ((R.map Mv.d++[mv.d]).map lfD)) = flT h r (R++[mv]) (S++[x]):=by
  have:R.map Mv.d++[mv.d] = (R++[mv]).map Mv.d:=by rw [List.map_append]; rfl
  rw [this,IX]; rfl
 rw [e1]
 walk_at "xs"
 refine ⟨⟨_,jy (S++[x])⟩,?_⟩
 walk_at "xs"
 refine ls (p:=[4]) rfl rfl (jy (S++[x])) rfl (by rw [List.length_map,List.length_append,sizeLine_eq,List.length_singleton]; omega) ?_
 have e2:setT (flT h r (R++[mv]) (S++[x])) [4] (.list (((S++[x]).map Sc.d++[(x.nx h r mv).d]).map lfD)) = flT h r (R++[mv]) (S++[x]++[x.nx h r mv]):=by
  have:(S++[x]).map Sc.d++[(x.nx h r mv).d] = (S++[x]++[x.nx h r mv]).map Sc.d:=by rw [List.map_append (l₁:=S++[x])]; rfl
  rw [this,DG]; rfl
 rw [e2]
 walk_at "xs"
 exact k
theorem fq (T:Bl K mg) (D:MthD K "Floor" "run_so_far" "Floor.run_so_far" aV ["self"]):jU P w K mg base "Floor" "run_so_far" 1 1 yu:=by
 refine qM D fu rfl (nN:=1) rfl (by decide) ?ar fun cdv A outer s H E f hr=>⟨_,(aa (ac (aM bw (by rfl) T.tuple b0 (mc' (f9 T.f_Floor_moves (mv' 0)) mn')))),?_⟩
 case ar=>rintro as Kc ⟨h,r,R,S,rfl,_⟩; rfl
 rintro as Kc hl ⟨h,r,R,S,rfl,k⟩
 refine ag (MSt.mk [some (.at 0 [])] [[flT h r R S]] 1) rfl ?_
 walk_at "xs"
 refine u9 (ds:=R.map Mv.d) (gn R) ?_
 walk_at "xs"
 exact k
theorem mn (T:Bl K mg) (D:DefM K mg "_law_tape" fX ["_law_script"]):FnM P w K mg base "_law_tape" 1 1 rD:=by
 refine aG D mZ rfl (nN:=1) rfl (by decide) ?ar fun cdv A outer s H E f hr=>⟨_,(aa (ac (xr (i3 ae (cB (bV c6 (mv' 0) cn (cp mh'))) (i3 ae mh' (i3 ae mh' xh)))))),?_⟩
 case ar=>rintro as Kc ⟨ns,rfl,_⟩; rfl
 rintro as Kc hl ⟨ns,rfl,hn,k⟩
 refine ag (MSt.mk [some (.imm (.list (ns.map .int)))] [] 0) rfl ?_
 walk_at "xs"
 have e:cutD (ns.map PyData.int) none (some 63) = ns.map .int:=wG (n:=63) (by rw [List.length_map]; exact hn)
 rw [e]
 exact k _ ⟨ns,0,0,rfl,hn,by omega,by omega,by omega⟩
theorem mL (T:Bl K mg) (D:DefM K mg "_law_draw" fY ["_law_tape_here", "_law_many"]):FnM P w K mg base "_law_draw" 1 2 i6:=by
 refine aG D sc_law_draw rfl (nN:=6) rfl (by decide) ?ar fun cdv A outer s H E f hr=>⟨_,(mz' (aE (ap rE (dt hr.units (mv' 0) ae) mh' (az _)) (mz' (ai (i:=2) sc_law_draw.nd rfl (Or.inl rfl) (af cJ (dt hr.units (mv' 0) ae) (mv' 1)))
   (mz' (kz hr.units (af dU (dt hr.units (mv' 0) ae) (mv' 1)) (mv' 0) ae)
   (aa (ac (mv' 2))))) aq)
   (mz' (ai (i:=3) sc_law_draw.nd rfl (Or.inl rfl) (dt hr.units (mv' 0) ae))
   (mz' (kz hr.units (af aF (mv' 3) mh') (mv' 0) ae)
   (mz' (ai (i:=4) sc_law_draw.nd rfl (Or.inl rfl) (af bI mh' (mv' 3)))
   (mz' (aE (ap (jG hr.units) (dt hr.units (mv' 0) ae) (bH mn') (az _)) (aa (ai (i:=4) sc_law_draw.nd rfl (Or.inl rfl) (am (dt hr.units (mv' 0) ae) (af cJ (mv' 3) (ay aP (by rfl) T.len b5 (mc' (dt hr.units (mv' 0) ae) mn')))))) aq)
   (mz' (aE (EW.pt (j8 (ap Gq (mv' 4) (af Ab mh' mh') (az _)) (ie (ap lw (mv' 3) (ay aP (by rfl) T.len b5 (mc' (dt hr.units (mv' 0) ae) mn')) (az _))))) (mz' (kz hr.units (af dU (mv' 4) (mv' 1)) (mv' 0) ae)
   (aa (ac (af cJ (mv' 4) (mv' 1))))) aq)
   (mz' (ai (i:=5) sc_law_draw.nd rfl (Or.inl rfl) (af cJ (af bI (af aF (af aF (af cJ (mv' 4) mh') (af bI mh' (mv' 3))) mh') mh') mh'))
   (mz' (ai (i:=5) sc_law_draw.nd rfl (Or.inl rfl) (af cJ (af bI (af aF (af aF (af dU (mv' 5) mh') (af bI mh' (mv' 3))) mh') mh') mh'))
   (aa (ac (af cJ (af dU (mv' 5) mh') (mv' 1)))))))))))),?_⟩
 case ar=>rintro as Kc ⟨ds,m,c,rfl,_⟩; rfl
 rintro as Kc hl ⟨ds,m,c,rfl,⟨ns,p,q,rfl,hn,hp0,hp,hq⟩,hc,hm0,hm1,k⟩
 refine ag (MSt.mk [some (.at 0 []),some (.imm (.int m)),none,none,none,none] [[AW ns p q]] 1) rfl ?_
 walk_at "xs"
 refine aA (fun h=>?_) (fun h=>?_)
 ·walk_at "xs"
  exact k _ _ (Int.emod_nonneg _ (by omega)) (Int.emod_lt_of_pos _ hm0) ⟨ns,p,q / m,rfl,hn,hp0,by omega,Int.ediv_nonneg hq (by omega)⟩
 ·walk_at "xs"
  have fin:∀ x:Int,0≤x→x < m→∀ q':Int,0≤q'→Kc (.imm (.int x)) [[AW ns (p + 1) q']]:=fun x h1 h2 q' h3=>k _ _ h1 h2 ⟨ns,p + 1,q',rfl,hn,by omega,by omega,h3⟩
  have mixed:∀ y:Int,0≤y / 64 % m∧y / 64 % m < m:=fun y=>⟨Int.emod_nonneg _ (by omega),Int.emod_lt_of_pos _ hm0⟩
  cases ns with
  | nil =>
   refine x_ne rfl rfl rfl rfl ?_
   walk_at "xs"
   refine bP ?_
   walk_at "xs"
   refine aA (fun h1=>?_) (fun h1=>?_)
   ·walk_at "xs"
    refine aA (fun h2=>?_) (fun h2=>?_)
    ·walk_at "xs"
     exact fin _ (Int.emod_nonneg _ (by omega)) (Int.emod_lt_of_pos _ hm0) _ (Int.ediv_nonneg (Int.le_trans (by decide) h1) (by omega))
    ·walk_at "xs"
     exact fin _ (mixed _).1 (mixed _).2 _ hq
   ·walk_at "xs"
    exact fin _ (mixed _).1 (mixed _).2 _ hq
  | cons n0 ns =>
   refine x_ne rfl rfl (mq _) rfl ?_
   walk_at "xs"
   refine b6 ?_
   walk_at "xs"
   have hl0:(0:Int) < ((List.map PyData.int (n0 :: ns)).length:Int):=by simp only [List.length_map,List.length_cons]; omega
   refine vD hl0 ?_
   obtain ⟨x,hx⟩:=v3 (ns:=n0 :: ns) (i:=p % ((List.map PyData.int (n0 :: ns)).length:Int)) (Int.emod_nonneg _ (by omega)) (by have:=Int.emod_lt_of_pos p hl0; simp only [List.length_map] at this ⊢; exact this)
   refine mz hx ?_
   walk_at "xs"
   refine aA (fun h1=>?_) (fun h1=>?_)
   ·walk_at "xs"
    refine aA (fun h2=>?_) (fun h2=>?_)
    ·walk_at "xs"
     exact fin _ (Int.emod_nonneg _ (by omega)) (Int.emod_lt_of_pos _ hm0) _ (Int.ediv_nonneg (Int.le_trans (by decide) h1) (by omega))
    ·walk_at "xs"
     exact fin _ (mixed _).1 (mixed _).2 _ hq
   ·walk_at "xs"
    exact fin _ (mixed _).1 (mixed _).2 _ hq
theorem nC (T:Bl K mg) (D:DefM K mg "_law_frac" fJ ["_law_top", "_law_bottom"]):FnM P w K mg base "_law_frac" 1 2 Ij:=by
 refine aG D sc_law_frac rfl (nN:=4) rfl (by decide) ?ar fun cdv A outer s H E f hr=>⟨_,(mz' (mm (i:=2) (j:=3) sc_law_frac.nd rfl rfl (by decide) rfl rfl (mc' (mv' 0) (mc' (mv' 1) mn')) rfl)
   (mz' (fy (ap rE (mv' 3) mh' (az _)) (aa (mm (i:=2) (j:=3) sc_law_frac.nd rfl rfl (by decide) rfl rfl (mc' (mv' 3) (mc' (af cJ (mv' 2) (mv' 3)) mn')) rfl)) PassesOwn.never)
   (aa (ac (aw (mc' (af dU (mv' 0) (mv' 2)) (mc' (af dU (mv' 1) (mv' 2)) mn'))))))),?_⟩
 case ar=>rintro as Kc ⟨a,b,rfl,_⟩; rfl
 rintro as Kc hl ⟨a,b,rfl,ha,hb0,hb,k⟩
 refine ag (MSt.mk [some (.imm (.int a)),some (.imm (.int b)),none,none] [] 0) rfl ?_
 walk_at "xs"
 refine kh (fun n m=>∃ x y:Nat,m = MSt.mk [some (.imm (.int a)),some (.imm (.int b)),some (.imm (.int x)),some (.imm (.int y))] [] 0∧x.gcd y = a.gcd b∧x < 1000000000∧y < 1000000000∧n = y) b ⟨a,b,rfl,rfl,ha,hb,rfl⟩ ?_
 rintro n m hn ⟨x,y,rfl,hg,hx1,hy1,rfl⟩
 walk_at "xs"
 refine aA (fun hpos=>?_) (fun hz=>?_)
 ·walk_at "xs"
  have hy : 0 < n:=by omega
  have h2:=Nat.mod_lt x hy
  exact ⟨x % n,h2,n,x % n,rfl,by rw [Nat.gcd_comm,←Nat.gcd_rec,Nat.gcd_comm,hg],hy1,by omega,rfl⟩
 ·have hy0:n = 0:=by omega
  subst hy0
  rw [Nat.gcd_zero_right] at hg
  have hx0 : 0 < x:=by rw [hg]; exact Nat.gcd_pos_of_pos_right _ hb0
  walk_at "xs"
  walk_at "xs"
  rw [hg]
  exact k
theorem gU (T:Bl K mg) (D:DefM K mg "_law_all_lines" bU ["_law_rooms"]):FnM P w K mg base "_law_all_lines" 1 1 nY:=by
 refine aG D sc_law_all_lines rfl (nN:=5) rfl (by decide) ?ar fun cdv A outer s H E f hr=>⟨_,(mz' (ai (i:=1) sc_law_all_lines.nd rfl (Or.inl rfl) (bH (mc' (aw mn') mn')))
   (mz' (bT (bG (mv' 0)) (ad (i:=2) sc_law_all_lines.nd rfl (Or.inl rfl)) (mz' (ai (i:=3) sc_law_all_lines.nd rfl (Or.inl rfl) (bH mn'))
   (mz' (bT (bG (mv' 1)) (ad (i:=4) sc_law_all_lines.nd rfl (Or.inr rfl)) (aa (cj (d5 PySem.F.slot_list_extend PySem.F.type_list_extend qk (mv' 3) (mc' (bu (own:=["_law_k"]) (fr:=["_law_lines"]) (ps:=[4]) (sc:=(ab bU)) (by exact ⟨rfl,by decide +kernel,by decide +kernel,by decide +kernel,by decide +kernel⟩) (bX (by rfl) T.range (mc' (af aF (mv' 2) mh') mn')) (fun _ _ _ _ _=>(ad (i:=0) (show List.Nodup ((["_law_k"]:List Str)++(["_law_lines"]:List Str)) from by decide +kernel) rfl (Or.inl rfl))) (fun _ _ _ _ _=>bz) (fun _ _ _ _ _=>(af aF (mv' 1) (aw (mc' (mv' 0) mn'))))) mn')))) PassesOwn.never)
   (aa (ai (i:=1) sc_law_all_lines.nd rfl (Or.inl rfl) (mv' 3))))) PassesOwn.never)
   (aa (ac (mv' 1))))),?_⟩
 case ar=>rintro as Kc ⟨rs,rfl,_⟩; rfl
 rintro as Kc hl ⟨rs,rfl,h4,h6,k⟩
 refine ag (MSt.mk [some (.imm (.list (rs.map fun (r:Nat)=>.int (r:Int)))),none,none,none,none] [] 0) rfl ?_
 walk_at "xs"
 refine cu ?_
 walk_at "xx"
 refine bi (fun i m=>∃ a c,m = MSt.mk [some (.imm (.list (rs.map fun (r:Nat)=>.int (r:Int)))),some (.obj 0),a,none,c] [(((rs.take i).foldl M3.stepL [[]]).map lnD)] 0) ⟨none,none,rfl⟩ ?_ ?_
 ·rintro i d m e n ⟨a,c,rfl⟩
  obtain ⟨r,es,rfl,hi⟩:=gmap e
  have r6:=h6 r (List.mem_of_getElem? es)
  generalize hprev:(rs.take i).foldl M3.stepL [[]] = prev
  have hpl:∀ a∈prev,a.length≤4:=by
   intro a ha
   rw [←hprev] at ha
   have:=M3.allR_len (by rw [←M3.allL_eq]; exact ha)
   rw [this,List.length_take]
   omega
  have hpn:prev.length≤2401:=by
   rw [←hprev]
   exact M3.fold_small (by rw [List.length_take]; omega) (fun r hr=>h6 r (List.mem_of_mem_take hr))
  have hfold:((rs.take (i + 1)).foldl M3.stepL [[]]) = M3.stepL prev r:=by
   rw [List.take_add_one,es,List.foldl_append,hprev]; rfl
  rw [hfold]
  walk_at "xs"
  refine cu ?_
  walk_at "xx"
  refine dJ (fun i m=>∃ a,m = MSt.mk [some (.imm (.list (rs.map fun (r:Nat)=>.int (r:Int)))),some (.obj 0),some (.imm (.int r)),some (.obj 1),a] [prev.map lnD,(M3.stepL (prev.take i) r).map lnD] 1) ⟨c,rfl⟩ ?_ ?_ ?_
  ·rintro j m ⟨a,rfl⟩; rfl
  ·rintro j d m ej nj ⟨a,rfl⟩
   obtain ⟨l,el,rfl,hj⟩:=gmap ej
   have hl4:=hpl l (List.mem_of_getElem? el)
   walk_at "xs"
   refine ⟨by omega,by omega,?_⟩
   have en:((r:Int) + 1).toNat = r + 1:=by omega
   rw [en]
   walk_at "xn"
   refine bi (fun z m=>∃ b,m = MSt.mk [b,some (.imm (lnD l))] [prev.map lnD,(M3.stepL (prev.take j) r).map lnD,((List.range z).map fun y=>l++[y]).map lnD] 3) ⟨none,rfl⟩ ?_ ?_
   ·rintro z dz m ez nz ⟨b,rfl⟩
    obtain ⟨hz,rfl⟩:=cC ez
    walk_at "xs"
    refine mf (by rw [sizeLine_eq,aB]; simp; omega) ?_
    walk_at "xs"
    refine ⟨_,rfl,by rw [sizeLine_eq]; simp; omega,some (.imm (.int (0 + (z:Int)))),?_⟩
    have ee:((List.range (z + 1)).map fun y=>l++[y]).map lnD = ((List.range z).map fun y=>l++[y]).map lnD++[.tuple (natD l++[.int (0 + (z:Int))])]:=by
     rw [List.range_succ]; simp [lnD,natD]
    rw [ee]
    rfl
   ·rintro m n ⟨b,rfl⟩
    rw [aH]
    walk_at "xs"
    have hz:((M3.stepL (prev.take j) r).map lnD).length + (((List.range (r + 1)).map fun y=>l++[y]).map lnD).length≤sizeLine:=by
     rw [sizeLine_eq,List.length_map,List.length_map,List.length_map,List.length_range,M3.stepL_length,List.length_take]
     have:min j prev.length * (r + 1)≤2401 * 7:=Nat.mul_le_mul (by omega) (by omega)
     omega
    refine' w9 (ds:=(M3.stepL (prev.take j) r).map lnD) ?eb hz ?_
    case eb=>rfl
    have ee:(M3.stepL (prev.take (j + 1)) r).map lnD = (M3.stepL (prev.take j) r).map lnD++((List.range (r + 1)).map fun y=>l++[y]).map lnD:=by
     rw [M3.stepL_take el,List.map_append]
    rw [ee]
    exact ⟨_,rfl⟩
  ·rintro m n ⟨a,rfl⟩
   rw [List.length_map,List.take_length]
   walk_at "xn"
   refine Gc ?_
   refine q9 rfl ?_
   refine uh [1] (MSt.mk [some (.imm (.list (rs.map fun (r:Nat)=>.int (r:Int)))),some (.obj 0),some (.imm (.int r)),none,none] [(M3.stepL prev r).map lnD] 0) (uT rfl rfl rfl rfl rfl rfl ⟨rfl,⟨1,rfl,rfl⟩,rfl,trivial,trivial,trivial⟩) ⟨_,_,rfl⟩
 ·rintro m n ⟨a,c,rfl⟩
  rw [List.length_map,List.take_length,show rs.foldl M3.stepL [[]] = M3.allL rs from rfl,M3.allL_eq]
  walk_at "xs"
  exact k
theorem m5 (T:Bl K mg) (D:DefM K mg "_law_hall" bA ["_law_tape_here", "_law_most"]) (G_law_draw:FnM P w K mg base "_law_draw" 1 2 i6) (G_law_frac:FnM P w K mg base "_law_frac" 1 2 Ij) (G_law_all_lines:FnM P w K mg base "_law_all_lines" 1 1 nY):FnM P w K mg base "_law_hall" 3 2 uv:=by
 refine aG D sc_law_hall rfl (nN:=7) rfl (by decide) ?ar fun cdv A outer s H E f hr=>⟨_,(mz' (ai (i:=2) sc_law_hall.nd rfl (Or.inl rfl) (am (bH (mc' mh' (mc' mh' (mc' mh' (mc' mh' (mc' mh' (mc' mh' (mc' mh' (mc' mh' mn'))))))))) (mf' G_law_draw (hr.mono (by decide)) (mc' (mv' 0) (mc' mh' mn')))))
   (mz' (l5 (i:=3) (own:=["_law_k"]) (fr:=["_law_tape_here"]) (ps:=[0]) (sc:=(ab bA)) (by exact ⟨rfl,by decide +kernel,by decide +kernel,by decide +kernel,by decide +kernel⟩) sc_law_hall.nd rfl rfl (bX (by rfl) T.range (mc' (mv' 2) mn')) (fun _ _ _ _ _=>(ad (i:=0) (show List.Nodup ((["_law_k"]:List Str)++(["_law_tape_here"]:List Str)) from by decide +kernel) rfl (Or.inl rfl))) (fun _ _ _ _ _=>bz) (fun _ _ _ _ _=>(aw (mc' (af aF mh' (mf' G_law_draw (hr.mono (by decide)) (mc' (mv' 1) (mc' mh' mn')))) (mc' (af aF mh' (mf' G_law_draw (hr.mono (by decide)) (mc' (mv' 1) (mc' mh' mn')))) mn')))))
   (mz' (aE (ap (aI hr.units) (mf' G_law_draw (hr.mono (by decide)) (mc' (mv' 0) (mc' mh' mn'))) mh' (az _)) (aa (ai (i:=3) sc_law_hall.nd rfl (Or.inl rfl) (af bI (bH (mc' (am (mv' 3) mh') mn')) (mv' 2)))) aq)
   (mz' (fy (ap rE (ay aP (by rfl) T.len b5 (mc' (mf' G_law_all_lines (hr.mono (by decide)) (mc' (cB (bu (own:=["_law_top", "_law_room"]) (fr:=[]) (ps:=[]) (sc:=(ab bA)) (by exact ⟨rfl,by decide +kernel,by decide +kernel,by decide +kernel,by decide +kernel⟩) (bG (mv' 3)) (fun _ _ _ _ _=>(bt (n:=2) (ah (ad (i:=0) (show List.Nodup ((["_law_top", "_law_room"]:List Str)++([]:List Str)) from by decide +kernel) rfl (Or.inl rfl)) (ah (ad (i:=1) (show List.Nodup ((["_law_top", "_law_room"]:List Str)++([]:List Str)) from by decide +kernel) rfl (Or.inl rfl)) a9)))) (fun _ _ _ _ _=>bz) (fun _ _ _ _ _=>(mv' 1)))) mn')) mn')) (mv' 1) (az _)) (mz' (aE (ap (aI hr.units) (ay (cX rfl) (by rfl) T.max jF (mc' (bu (own:=["_law_top", "_law_room"]) (fr:=[]) (ps:=[]) (sc:=(ab bA)) (by exact ⟨rfl,by decide +kernel,by decide +kernel,by decide +kernel,by decide +kernel⟩) (bG (mv' 3)) (fun _ _ _ _ _=>(bt (n:=2) (ah (ad (i:=0) (show List.Nodup ((["_law_top", "_law_room"]:List Str)++([]:List Str)) from by decide +kernel) rfl (Or.inl rfl)) (ah (ad (i:=1) (show List.Nodup ((["_law_top", "_law_room"]:List Str)++([]:List Str)) from by decide +kernel) rfl (Or.inl rfl)) a9)))) (fun _ _ _ _ _=>bz) (fun _ _ _ _ _=>(mv' 1))) mn')) mh' (az _)) (aa (ai (i:=3) sc_law_hall.nd rfl (Or.inl rfl) (bV c6 (mv' 3) (cp mh') cn))) aq)
   (aa (l5 (i:=3) (own:=["_law_top", "_law_room"]) (fr:=[]) (ps:=[]) (sc:=(ab bA)) (by exact ⟨rfl,by decide +kernel,by decide +kernel,by decide +kernel,by decide +kernel⟩) sc_law_hall.nd rfl rfl (bG (mv' 3)) (fun _ _ _ _ _=>(bt (n:=2) (ah (ad (i:=0) (show List.Nodup ((["_law_top", "_law_room"]:List Str)++([]:List Str)) from by decide +kernel) rfl (Or.inl rfl)) (ah (ad (i:=1) (show List.Nodup ((["_law_top", "_law_room"]:List Str)++([]:List Str)) from by decide +kernel) rfl (Or.inl rfl)) a9)))) (fun _ _ _ _ _=>bz) (fun _ _ _ _ _=>(aw (mc' (mv' 0) (mc' (ay (uU rfl) (by rfl) T.max jF (mc' mh' (mc' (af uu (mv' 1) mh') mn'))) mn'))))))) PassesOwn.never)
   (mz' (ai (i:=4) sc_law_hall.nd rfl (Or.inl rfl) (af aF mh' (mf' G_law_draw (hr.mono (by decide)) (mc' (mv' 0) (mc' mh' mn')))))
   (mz' (ai (i:=5) sc_law_hall.nd rfl (Or.inr rfl) (af aF (af aF (mv' 4) (ay (qE rfl) (by rfl) T.sum FC (mc' (bu (own:=["_law_top", "_law_room"]) (fr:=[]) (ps:=[]) (sc:=(ab bA)) (by exact ⟨rfl,by decide +kernel,by decide +kernel,by decide +kernel,by decide +kernel⟩) (bG (mv' 3)) (fun _ _ _ _ _=>(bt (n:=2) (ah (ad (i:=0) (show List.Nodup ((["_law_top", "_law_room"]:List Str)++([]:List Str)) from by decide +kernel) rfl (Or.inl rfl)) (ah (ad (i:=1) (show List.Nodup ((["_law_top", "_law_room"]:List Str)++([]:List Str)) from by decide +kernel) rfl (Or.inl rfl)) a9)))) (fun _ _ _ _ _=>bz) (fun _ _ _ _ _=>(mv' 0))) mn'))) (am (bH (mc' mh' (mc' mh' (mc' mh' (mc' mh' (mc' mh' mn')))))) (mf' G_law_draw (hr.mono (by decide)) (mc' (mv' 0) (mc' mh' mn'))))))
   (mz' (ai (i:=6) sc_law_hall.nd rfl (Or.inl rfl) (aM bw (by rfl) T.tuple b0 (mc' (bu (own:=["_law_top", "_law_room"]) (fr:=["_law_whole"]) (ps:=[5]) (sc:=(ab bA)) (by exact ⟨rfl,by decide +kernel,by decide +kernel,by decide +kernel,by decide +kernel⟩) (bG (mv' 3)) (fun _ _ _ _ _=>(bt (n:=2) (ah (ad (i:=0) (show List.Nodup ((["_law_top", "_law_room"]:List Str)++(["_law_whole"]:List Str)) from by decide +kernel) rfl (Or.inl rfl)) (ah (ad (i:=1) (show List.Nodup ((["_law_top", "_law_room"]:List Str)++(["_law_whole"]:List Str)) from by decide +kernel) rfl (Or.inl rfl)) a9)))) (fun _ _ _ _ _=>bz) (fun _ _ _ _ _=>(aw (mc' (mf' G_law_frac (hr.mono (by decide)) (mc' (mv' 0) (mc' (mv' 2) mn'))) (mc' (mv' 1) mn'))))) mn')))
   (aa (ac (aw (mc' (mf' G_law_frac (hr.mono (by decide)) (mc' (mv' 4) (mc' (mv' 5) mn'))) (mc' (mv' 6) (mc' (gm (aI hr.units) (mf' G_law_draw (hr.mono (by decide)) (mc' (mv' 0) (mc' mh' mn'))) mh' (az _)) mn'))))))))))))),?_⟩
 case ar=>rintro as Kc ⟨t,c,rfl,_⟩; rfl
 rintro as Kc hl ⟨t,c,rfl,ht,hc,k⟩
 refine ag (MSt.mk [some (.at 0 []),some (.imm (.int 400)),none,none,none,none,none] [[t]] 1) rfl ?_
 walk_at "xs"
 refine ⟨t,_,_,rfl,ht,by omega,by omega,by omega,fun q t hq0 hq1 ht=>?_⟩
 obtain ⟨n,hn1,hn4,en⟩ : ∃ n:Nat,1≤n∧n≤4∧atI [PyData.int 2,.int 2,.int 3,.int 1,.int 2,.int 3,.int 2,.int 4] q = some (.int (n:Int)):=by
  have:q = 0∨q = 1∨q = 2∨q = 3∨q = 4∨q = 5∨q = 6∨q = 7:=by omega
  rcases this with rfl | rfl | rfl | rfl | rfl | rfl | rfl | rfl
  ·exact ⟨2,by decide,by decide,rfl⟩
  ·exact ⟨2,by decide,by decide,rfl⟩
  ·exact ⟨3,by decide,by decide,rfl⟩
  ·exact ⟨1,by decide,by decide,rfl⟩
  ·exact ⟨2,by decide,by decide,rfl⟩
  ·exact ⟨3,by decide,by decide,rfl⟩
  ·exact ⟨2,by decide,by decide,rfl⟩
  ·exact ⟨4,by decide,by decide,rfl⟩
 walk_at "xn"
 refine j6 en ?_
 walk_at "xs"
 refine ⟨by omega,by omega,?_⟩
 rw [Int.toNat_natCast]
 walk_at "xn"
 refine bi (fun i m=>∃ a t ps,m = MSt.mk [a,some (.at 0 [])] [[t],ps.map prD] 2∧TapeK (c + 1 + 2 * i) t∧ps.length = i∧∀ p∈ps,1≤p.1∧p.1≤3∧1≤p.2∧p.2≤4) ⟨none,t,[],rfl,ht,rfl,fun _ h=>by cases h⟩ ?_ ?_
 ·rintro i d m e hnp ⟨a,t,ps,rfl,ht,hpl,hps⟩
  obtain ⟨hi,rfl⟩:=cC e
  walk_at "xs"
  refine ⟨t,_,c + 1 + 2 * i,rfl,ht,by omega,by omega,by omega,fun q1 t hq0 hq1 ht=>?_⟩
  walk_at "xx"
  refine ⟨t,_,c + 1 + 2 * i + 1,rfl,ht,by omega,by omega,by omega,fun q2 t hq2 hq3 ht=>?_⟩
  walk_at "xx"
  obtain ⟨q1,rfl⟩:=Int.eq_ofNat_of_zero_le hq0
  obtain ⟨q2,rfl⟩:=Int.eq_ofNat_of_zero_le hq2
  refine ⟨_,rfl,by rw [sizeLine_eq,List.length_map]; omega,some (.imm (.int (0 + (i:Int)))),t,ps++[(1 + q1,1 + q2)],?_,ht.mono (by omega),by simp [hpl],fun p hp=>?_⟩
  ·rw [List.map_append]; rfl
  ·obtain h | h:=List.mem_append.mp hp
   ·exact hps p h
   ·cases List.mem_singleton.mp h
    exact ⟨by show 1≤1 + q1; omega,by show 1 + q1≤3; omega,by show 1≤1 + q2; omega,by show 1 + q2≤4; omega⟩
 rintro m hnp ⟨a,t,ps,rfl,ht,hpl,hps⟩
 rw [aH] at hpl
 have ht:=ht.mono (c':=c + 9) (by rw [aH]; omega)
 have hsv:SvK ps:=⟨by omega,by omega,hps⟩
 walk_at "xn"
 refine cu ?_
 walk_at "xn"
 refine qF ?_
 refine x_JS (fun m=>∃ ps t,m = MSt.mk [some (.at 0 []),some (.imm (.int 400)),some (.imm (.int (n:Int))),some (.obj 1),none,none,none] [[t],ps.map prD] 1∧TapeK (c + 10) t∧SvK ps) (fun N J=>?_) ?_
 ·walk_at "xs"
  refine ⟨t,_,_,rfl,ht,by omega,by omega,by omega,fun q1 t hq0 hq1 ht=>?_⟩
  walk_at "xx"
  refine aA (fun z=>?_) (fun z=>?_)
  ·obtain ⟨p0,ps',rfl⟩ : ∃ p0 ps',ps = p0 :: ps':=by
    cases ps with
    | nil=>simp at hpl; omega
    | cons p0 sp=>exact ⟨p0,sp,rfl⟩
   walk_at "xs"
   refine dE (d:=prD p0) rfl (show atI ((p0 :: ps').map prD) 0 = some (prD p0) from bc (j:=0) (xs:=(p0 :: ps').map prD) rfl) ?_
   walk_at "xs"
   refine Fj (by omega) (by omega) (by simp; omega) ?_
   rw [Int.toNat_natCast,vd]
   refine js (k:=1) rfl (show 1≤1 by decide) (fun j hj=>?_) (J _ ⟨List.replicate n p0,t,by rw [List.map_replicate]; rfl,ht,hsv.rep List.mem_cons_self hn1 hn4⟩)
   match j with
   | 0 | 1 | 2 | 4 | 5 | 6=>exact fun z=>by cases z
   | 3=>exact (hj rfl).elim
   | n + 7=>exact fun z=>by cases z
  ·walk_at "xs"
   exact J _ ⟨ps,t,rfl,ht,hsv⟩
 clear hsv hpl hps ht
 rintro _ ⟨ps,t,rfl,ht,hsv⟩
 refine qF ?_
 refine kh (fun z m=>∃ ps,m = MSt.mk [some (.at 0 []),some (.imm (.int 400)),some (.imm (.int (n:Int))),some (.obj 1),none,none,none] [[t],ps.map prD] 1∧SvK ps∧z = (bo ps).sum) _ ⟨ps,rfl,hsv,rfl⟩ ?_
 clear hsv
 rintro z m hnp ⟨ps,rfl,hsv,rfl⟩
 walk_at "xs"
 obtain ⟨s1,s4,_⟩:=id hsv
 refine dJ (fun i m=>∃ a b,m = MSt.mk [a,b] [[t],ps.map prD,(ps.take i).map zo] 3) ⟨none,none,rfl⟩ ?_ ?_ ?_
 ·rintro i m ⟨a,b,rfl⟩; rfl
 ·rintro i d m e hnp2 ⟨a,b,rfl⟩
  obtain ⟨p,ep,rfl,hi⟩:=gmap e
  have hp:=hsv.2.2 p (List.mem_of_getElem? ep)
  rw [bm _ ep]
  dsimp only [prD]
  walk_at "xs"
  ·rfl
  walk_at "xs"
  exact ⟨_,rfl,by rw [sizeLine_eq,List.length_map,List.length_take]; omega,some (.imm (.int (p.1:Int))),some (.imm (.int (p.2:Int))),rfl⟩
 rintro m hm ⟨a,b,rfl⟩
 rw [List.length_map,List.take_length,lQ]
 walk_at "xx"
 refine ⟨bo ps,rfl,hsv.six.1,hsv.six.2,?_⟩
 walk_at "xx"
 rw [List.length_map]
 refine aA (fun hb=>?_) (fun hb=>?_)
 ·have hb' : 400 < (M3.allR (bo ps)).length:=by omega
  obtain ⟨p2,hp2,hr2⟩:=zT hsv hb'
  have hdec:=(lq (ps:=ps) fun p hp=>(hsv.2.2 p hp).2.2.1).2 ⟨p2,hp2,hr2⟩
  walk_at "xs"
  refine dJ (fun i m=>∃ a b,m = MSt.mk [a,b] [[t],ps.map prD,(ps.take i).map zo] 3) ⟨none,none,rfl⟩ ?_ ?_ ?_
  ·rintro i m ⟨a,b,rfl⟩; rfl
  ·rintro i d m e hnp2 ⟨a,b,rfl⟩
   obtain ⟨p,ep,rfl,hi⟩:=gmap e
   have hp:=hsv.2.2 p (List.mem_of_getElem? ep)
   rw [bm _ ep]
   dsimp only [prD]
   walk_at "xs"
   ·rfl
   walk_at "xs"
   exact ⟨_,rfl,by rw [sizeLine_eq,List.length_map,List.length_take]; omega,some (.imm (.int (p.1:Int))),some (.imm (.int (p.2:Int))),rfl⟩
  rintro m hm ⟨a,b,rfl⟩
  rw [List.length_map,List.take_length,lQ]
  walk_at "xx"
  refine lA rfl (vf (bo ps)) (fun z=>?_) fun x hx hx2=>?_
  ·have:=congrArg List.length z
   rw [List.length_map,bo,List.length_map,List.length_nil] at this
   omega
  have hx3:=hx2 (p2.2:Int) (List.mem_map.mpr ⟨p2.2,List.mem_map.mpr ⟨p2,hp2,rfl⟩,rfl⟩)
  walk_at "xs"
  refine aA (fun z=>absurd z (by omega)) (fun z=>?_)
  walk_at "xs"
  refine dJ (fun i m=>∃ a b,m = MSt.mk [a,b] [[t],ps.map prD,(ps.take i).map Ix] 3) ⟨none,none,rfl⟩ ?_ ?_ ?_
  ·rintro i m ⟨a,b,rfl⟩; rfl
  ·rintro i d m e hnp2 ⟨a,b,rfl⟩
   obtain ⟨p,ep,rfl,hi⟩:=gmap e
   have hp:=hsv.2.2 p (List.mem_of_getElem? ep)
   rw [bm _ ep]
   dsimp only [prD]
   walk_at "xs"
   ·rfl
   walk_at "xs"
   have em:(if (p.2:Int) - 1 > 1 then (p.2:Int) - 1 else 1) = ((max 1 (p.2 - 1):Nat):Int):=by
    split <;> omega
   rw [em]
   exact ⟨_,rfl,by rw [sizeLine_eq,List.length_map,List.length_take]; omega,some (.imm (.int (p.1:Int))),some (.imm (.int (p.2:Int))),rfl⟩
  rintro m hm ⟨a,b,rfl⟩
  rw [List.length_map,List.take_length,sW]
  walk_at "xn"
  refine js (k:=1) rfl (show 1≤1 by decide) (fun j hj=>?_) ⟨_,hdec,iy ps,rfl,v6 hsv,rfl⟩
  match j with
  | 0 | 1 | 2 | 4 | 5 | 6=>exact fun z=>by cases z
  | 3=>exact (hj rfl).elim
  | n + 7=>exact fun z=>by cases z
 ·walk_at "xs"
  refine ⟨t,_,_,rfl,ht,by omega,by omega,by omega,fun cm t hc0 hc1 ht=>?_⟩
  obtain ⟨cm,rfl⟩:=Int.eq_ofNat_of_zero_le hc0
  walk_at "xx"
  refine dJ (fun i m=>∃ a b,m = MSt.mk [a,b] [[t],ps.map prD,(ps.take i).map topD] 3) ⟨none,none,rfl⟩ ?_ ?_ ?_
  ·rintro i m ⟨a,b,rfl⟩; rfl
  ·rintro i d m e hnp2 ⟨a,b,rfl⟩
   obtain ⟨p,ep,rfl,hi⟩:=gmap e
   have hp:=hsv.2.2 p (List.mem_of_getElem? ep)
   rw [bm _ ep]
   dsimp only [prD]
   walk_at "xs"
   ·rfl
   walk_at "xs"
   exact ⟨_,rfl,by rw [sizeLine_eq,List.length_map,List.length_take]; omega,some (.imm (.int (p.1:Int))),some (.imm (.int (p.2:Int))),rfl⟩
  rintro m hm ⟨a,b,rfl⟩
  rw [List.length_map,List.take_length,xU]
  walk_at "xx"
  refine ⟨_,_,rfl,vf (nw ps),?_⟩
  rw [sumK]
  have hsum:(nw ps).sum≤12:=by
   have:=om (ps:=ps) fun p hp=>(hsv.2.2 p hp).2.1
   omega
  generalize (nw ps).sum = S at hsum
  walk_at "xs"
  refine ⟨t,_,_,rfl,ht,by omega,by omega,by omega,fun q t hq0 hq1 ht=>?_⟩
  obtain ⟨mr,hmr,emr⟩ : ∃ mr:Nat,mr≤40∧atI [PyData.int 0,.int 0,.int 1,.int 7,.int 40] q = some (.int (mr:Int)):=by
   have:q = 0∨q = 1∨q = 2∨q = 3∨q = 4:=by omega
   rcases this with rfl | rfl | rfl | rfl | rfl
   ·exact ⟨0,by decide,rfl⟩
   ·exact ⟨0,by decide,rfl⟩
   ·exact ⟨1,by decide,rfl⟩
   ·exact ⟨7,by decide,rfl⟩
   ·exact ⟨40,by decide,rfl⟩
  walk_at "xn"
  refine j6 emr ?_
  walk_at "xs"
  obtain ⟨wh,ewh,hw1,hw2⟩ : ∃ wh:Nat,(1 + (cm:Int) + (S:Int) + (mr:Int)) = (wh:Int)∧1≤wh∧wh < 1000:=⟨1 + cm + S + mr,by omega,by omega,by omega⟩
  rw [ewh]
  walk_at "xx"
  refine dJ (fun i m=>∃ a b,m = MSt.mk [a,b,some (.imm (.int (wh:Int)))] [[t],ps.map prD,(ps.take i).map fun p=>(srvK wh p).d] 3) ⟨none,none,rfl⟩ ?_ ?_ ?_
  ·rintro i m ⟨a,b,rfl⟩; rfl
  ·rintro i d m e hnp2 ⟨a,b,rfl⟩
   obtain ⟨p,ep,rfl,hi⟩:=gmap e
   have hp:=hsv.2.2 p (List.mem_of_getElem? ep)
   rw [bm _ ep]
   dsimp only [prD]
   walk_at "xs"
   ·rfl
   walk_at "xs"
   refine ⟨p.1,wh,rfl,by omega,by omega,by omega,?_⟩
   walk_at "xx"
   exact ⟨_,rfl,by rw [sizeLine_eq,List.length_map,List.length_take]; omega,some (.imm (.int (p.1:Int))),some (.imm (.int (p.2:Int))),rfl⟩
  rintro m hm ⟨a,b,rfl⟩
  rw [List.length_map,List.take_length]
  walk_at "xx"
  refine ⟨1 + cm,wh,rfl,by omega,by omega,by omega,?_⟩
  walk_at "xx"
  refine ⟨t,_,_,rfl,ht,by omega,by omega,by omega,fun q t hq0 hq1 ht=>?_⟩
  walk_at "xx"
  have f1:=tF (p:=1 + cm) (wh:=wh) (by omega) (by omega) hw1 (by omega)
  have hk:=k ⟨(1 + cm) / (1 + cm).gcd wh,wh / (1 + cm).gcd wh,ps.map (srvK wh),decide (q = 0)⟩ t ⟨f1.1,f1.2.1,f1.2.2.1,f1.2.2.2,by rw [List.length_map]; exact s1,by rw [List.length_map]; exact s4,fun s hs=>?_⟩ (ht.mono (by omega))
  ·unfold Hall.d at hk
   rw [List.map_map] at hk
   exact hk
  ·obtain ⟨p,hp,rfl⟩:=List.mem_map.mp hs
   have h:=hsv.2.2 p hp
   have f2:=tF (p:=p.1) (wh:=wh) (by omega) (by omega) hw1 (by omega)
   exact ⟨f2.1,f2.2.1,f2.2.2.1,f2.2.2.2,h.2.2.1,by show p.2≤6; omega⟩
theorem p8 (T:Bl K mg) (D:DefM K mg "_law_run" iq ["_law_tape_here", "_law_hall_here"]) (G_law_draw:FnM P w K mg base "_law_draw" 1 2 i6):FnM P w K mg base "_law_run" 2 2 mY:=by
 refine aG D sc_law_run rfl (nN:=9) rfl (by decide) ?ar fun cdv A outer s H E f hr=>⟨_,(mz' (ai (i:=2) sc_law_run.nd rfl (Or.inl rfl) (ay aP (by rfl) T.len b5 (mc' (am (mv' 1) mh') mn')))
   (mz' (ai (i:=3) sc_law_run.nd rfl (Or.inl rfl) (bH mn'))
   (mz' (bT (bX (by rfl) T.range (mc' (am (bH (mc' (mf' G_law_draw (hr.mono (by decide)) (mc' (mv' 0) (mc' mh' mn'))) (mc' mh' mn'))) (aM sJ (by rfl) T.int qR (mc' (gm (aI hr.units) (mf' G_law_draw (hr.mono (by decide)) (mc' (mv' 0) (mc' mh' mn'))) mh' (az _)) mn'))) mn')) (ad (i:=4) sc_law_run.nd rfl (Or.inl rfl)) (mz' (ai (i:=5) sc_law_run.nd rfl (Or.inl rfl) (mf' G_law_draw (hr.mono (by decide)) (mc' (mv' 0) (mc' mh' mn'))))
   (mz' (ai (i:=6) sc_law_run.nd rfl (Or.inl rfl) (bH mn'))
   (mz' (bT (bX (by rfl) T.range (mc' (mv' 2) mn')) (ad (i:=7) sc_law_run.nd rfl (Or.inl rfl)) (aa (cj (d5 PySem.F.slot_list_insert PySem.F.type_list_insert qz (mv' 6) (mc' (mf' G_law_draw (hr.mono (by decide)) (mc' (mv' 0) (mc' (af aF (mv' 7) mh') mn'))) (mc' (mv' 7) mn'))))) PassesOwn.never)
   (mz' (ai (i:=8) sc_law_run.nd rfl (Or.inl rfl) (cB (bH (mc' (aw (mc' ae (mc' (aM bw (by rfl) T.tuple b0 (mc' (mv' 6) mn')) mn'))) (mc' (aw (mc' ae (mc' (aM bw (by rfl) T.tuple b0 (mc' (mv' 6) mn')) mn'))) (mc' (aw (mc' ae (mc' (am (mv' 6) mh') mn'))) (mc' (aw (mc' ae (mc' (am (mv' 6) (jr gj mh')) mn'))) (mc' (aw (mc' ae mn')) mn'))))))))
   (aa (cj (d5 PySem.F.slot_list_append PySem.F.type_list_append d0 (mv' 3) (mc' (am (mv' 8) (mv' 5)) mn')))))))) PassesOwn.never)
   (aa (ac (aM bw (by rfl) T.tuple b0 (mc' (mv' 3) mn'))))))),?_⟩
 case ar=>rintro as Kc ⟨t,c,h,rfl,_⟩; rfl
 rintro as Kc hl ⟨t,c,h,rfl,ho,ht,hc,k⟩
 have n1:=ho.n1
 have n4:=ho.n4
 refine ag (MSt.mk [some (.at 0 []),some (.imm (.tuple [.tuple [.int h.a,.int h.b],.tuple (h.ss.map Srv.d),.bool h.mv])),none,none,none,none,none,none,none] [[t]] 1) rfl ?_
 walk_at "xs"
 refine cu ?_
 walk_at "xn"
 rw [List.length_map]
 walk_at "xs"
 refine ⟨t,_,_,rfl,ht,by omega,by decide,by decide,fun q t hq0 hq1 ht=>?_⟩
 obtain ⟨qn,rfl⟩:=Int.eq_ofNat_of_zero_le hq0
 walk_at "xx"
 refine ⟨t,_,_,rfl,ht,by omega,by decide,by decide,fun z t hz0 hz1 ht=>?_⟩
 walk_at "xx"
 obtain ⟨N,eN,hN⟩ : ∃ N:Nat,atI [PyData.int (qn:Int),.int 200] (if decide (z = 0) = true then 1 else 0) = some (.int (N:Int))∧N≤200:=by
  by_cases hz:z = 0
  ·rw [decide_eq_true hz,if_pos rfl]; exact ⟨200,rfl,Nat.le_refl _⟩
  ·rw [decide_eq_false hz,if_neg (by decide)]; exact ⟨qn,rfl,by omega⟩
 refine j6 eN ?_
 walk_at "xs"
 refine ⟨by omega,by omega,?_⟩
 refine bi (fun i m=>∃ a4 a5 a6 a7 a8 t' R os',m = MSt.mk [some (.at 0 []),some (.imm (.tuple [.tuple [.int h.a,.int h.b],.tuple (h.ss.map Srv.d),.bool h.mv])),some (.imm (.int (h.ss.length:Int))),some (.obj 1),a4,a5,a6,a7,a8] ([t'] :: R.map Mv.d :: os') 1∧(os' = []∨∃ ds,os' = [ds])∧R.length = i∧(∀ mv∈R,mv.Ok3 h)∧TapeK (c + 2 + 5 * i) t') ⟨none,none,none,none,none,t,[],[],rfl,.inl rfl,rfl,(fun _ z=>by cases z),ht⟩ ?_ ?_
 ·rintro i d m e n ⟨a4,a5,a6,a7,a8,t,R,os',rfl,hos,hRl,hR,ht⟩
  obtain ⟨hi,rfl⟩:=cC e
  walk_at "xs"
  refine ⟨t,_,_,rfl,ht,by omega,by decide,by decide,fun way t hw0 hw1 ht=>?_⟩
  refine ky ?_
  walk_at "xn"
  refine qF ?_
  refine x_JS (fun m=>m = MSt.mk [some (.at 0 []),some (.imm (.tuple [.tuple [.int h.a,.int h.b],.tuple (h.ss.map Srv.d),.bool h.mv])),some (.imm (.int (h.ss.length:Int))),some (.obj 1),some (.imm (.int (0 + (i:Int)))),some (.imm (.int way)),some (.obj 2),none,none] [[t],R.map Mv.d,[]] 1) (fun N J=>?_) ?_
  ·walk_at "xs"
   rcases hos with rfl | ⟨ds,rfl⟩
   ·exact jE [0,1,2] (MSt.mk [some (.at 0 []),some (.imm (.tuple [.tuple [.int h.a,.int h.b],.tuple (h.ss.map Srv.d),.bool h.mv])),some (.imm (.int (h.ss.length:Int))),some (.obj 1),some (.imm (.int (0 + (i:Int)))),some (.imm (.int way)),some (.obj 2),none,none] [[t],R.map Mv.d,[]] 1) (uT rfl rfl rfl rfl rfl rfl ⟨⟨0,rfl,rfl⟩,rfl,rfl,⟨1,rfl,rfl⟩,rfl,rfl,⟨2,rfl,rfl⟩,trivial,trivial,trivial⟩) (J _ rfl)
   ·exact jE [0,1,3] (MSt.mk [some (.at 0 []),some (.imm (.tuple [.tuple [.int h.a,.int h.b],.tuple (h.ss.map Srv.d),.bool h.mv])),some (.imm (.int (h.ss.length:Int))),some (.obj 1),some (.imm (.int (0 + (i:Int)))),some (.imm (.int way)),some (.obj 2),none,none] [[t],R.map Mv.d,[]] 1) (uT rfl rfl rfl rfl rfl rfl ⟨⟨0,rfl,rfl⟩,rfl,rfl,⟨1,rfl,rfl⟩,rfl,rfl,⟨3,rfl,rfl⟩,trivial,trivial,trivial⟩) (J _ rfl)
  ·rintro m rfl
   walk_at "xs"
   refine ⟨by omega,by omega,?_⟩
   refine bi (fun j m=>∃ a7 t' o,m = MSt.mk [some (.at 0 []),some (.imm (.tuple [.tuple [.int h.a,.int h.b],.tuple (h.ss.map Srv.d),.bool h.mv])),some (.imm (.int (h.ss.length:Int))),some (.obj 1),some (.imm (.int (0 + (i:Int)))),some (.imm (.int way)),some (.obj 2),a7,none] [[t'],R.map Mv.d,natD o] 1∧o.length = j∧o.Nodup∧(∀ x∈o,x < j)∧TapeK (c + 2 + 5 * i + 1 + j) t') ⟨none,t,[],rfl,rfl,List.nodup_nil,(fun _ z=>by cases z),ht⟩ ?_ ?_
   ·rintro j d m e n ⟨a7,t,o,rfl,hol,hond,hox,ht⟩
    obtain ⟨hj,rfl⟩:=cC e
    have hj':j < h.ss.length:=by omega
    rw [Int.zero_add]
    walk_at "xs"
    refine ⟨t,_,_,rfl,ht,by omega,by omega,by omega,fun q t hq0 hq1 ht=>?_⟩
    obtain ⟨qn,rfl⟩:=Int.eq_ofNat_of_zero_le hq0
    walk_at "xx"
    refine w6 (ds:=natD o) (i:=qn) rfl (by rw [aB,hol]; omega) (by rw [sizeLine_eq,aB]; omega) ?_
    have pm:(o.take qn++[j]++o.drop qn).Perm (j :: o):=by
     have h1:(o.take qn++j :: o.drop qn).Perm (j :: (o.take qn++o.drop qn)):=List.perm_middle
     rw [List.take_append_drop] at h1
     rw [List.append_assoc]
     exact h1
    refine ⟨some (.imm (.int (j:Int))),t,o.take qn++[j]++o.drop qn,?_,by rw [pm.length_eq,List.length_cons,hol],pm.nodup_iff.mpr (List.nodup_cons.mpr ⟨fun z=>by have:=hox j z; omega,hond⟩),fun x hx=>?_,ht⟩
    ·have:natD (o.take qn++[j]++o.drop qn) = (natD o).take qn++[.int (j:Int)]++(natD o).drop qn:=by
      unfold natD
      rw [List.map_append,List.map_append,List.map_take,List.map_drop]; rfl
     rw [this]
     rfl
    ·rcases List.mem_cons.mp (pm.mem_iff.mp hx) with rfl | hx
     ·omega
     ·have:=hox x hx; omega
   ·rintro m n ⟨a7,t,o,rfl,hol,hond,hox,ht⟩
    rw [aH,Int.toNat_natCast] at hol hox ht
    walk_at "xs"
    obtain ⟨x0,e0⟩ : ∃ x0,o[0]? = some x0:=⟨_,List.getElem?_eq_getElem (by omega)⟩
    obtain ⟨x1,e1⟩ : ∃ x1,o[h.ss.length - 1]? = some x1:=⟨_,List.getElem?_eq_getElem (by omega)⟩
    have hx0:=hox x0 (List.mem_of_getElem? e0)
    have hx1:=hox x1 (List.mem_of_getElem? e1)
    refine dE (ds:=natD o) rfl (bc (j:=0) (ba e0)) ?_
    walk_at "xs"
    refine dE (ds:=natD o) rfl (vo (n:=h.ss.length - 1) (by rw [aB]; omega) (ba e1)) ?_
    walk_at "xs"
    obtain ⟨mv,emv,hmv⟩ : ∃ mv:Mv,atI [PyData.tuple [.str "come",.tuple (natD o)],.tuple [.str "come",.tuple (natD o)],.tuple [.str "done",.int (x0:Int)],.tuple [.str "done",.int (x1:Int)],.tuple [.str "still"]] way = some mv.d∧mv.Ok3 h:=by
     rcases (show way = 0∨way = 1∨way = 2∨way = 3∨way = 4 by omega) with rfl | rfl | rfl | rfl | rfl
     ·exact ⟨.come o,rfl,hol,hond,hox⟩
     ·exact ⟨.come o,rfl,hol,hond,hox⟩
     ·exact ⟨.done x0,rfl,hx0⟩
     ·exact ⟨.done x1,rfl,hx1⟩
     ·exact ⟨.still,rfl,trivial⟩
    walk_at "xx"
    refine mz emv ?_
    walk_at "xs"
    refine ⟨_,rfl,by rw [List.length_map,sizeLine_eq]; omega,?_⟩
    refine ⟨_,_,_,_,_,t,R++[mv],[natD o],by rw [List.map_append]; rfl,.inr ⟨_,rfl⟩,by rw [List.length_append,hRl]; rfl,fun m hm=>?_,ht.mono (by omega)⟩
    rcases List.mem_append.mp hm with z | z
    ·exact hR m z
    ·rw [List.mem_singleton.mp z]; exact hmv
 ·rintro m n ⟨a4,a5,a6,a7,a8,t,R,os',rfl,hos,hRl,hR,ht⟩
  rw [aH,Int.toNat_natCast] at hRl ht
  walk_at "xs"
  exact k R t (by omega) hR (ht.mono (by omega))
theorem m8 (T:Bl K mg) (D:DefM K mg "_law_text" dN ["_law_run_here"]):FnM P w K mg base "_law_text" 1 1 o2:=by
 refine aG D sc_law_text rfl (nN:=3) rfl (by decide) ?ar fun cdv A outer s H E f hr=>⟨_,(mz' (ai (i:=1) sc_law_text.nd rfl (Or.inl rfl) (bH mn'))
   (mz' (bT (bG (mv' 0)) (ad (i:=2) sc_law_text.nd rfl (Or.inl rfl)) (aa (aE (ap (aI hr.units) (am (mv' 2) mh') ae (az _)) (aa (cj (d5 PySem.F.slot_list_append PySem.F.type_list_append d0 (mv' 1) (mc' (iR PySem.F.slot_str_join PySem.F.type_str_join ia ae (mc' (af aF (bH (mc' ae mn')) (bu (own:=["_law_k"]) (fr:=[]) (ps:=[]) (sc:=(ab dN)) (by exact ⟨rfl,by decide +kernel,by decide +kernel,by decide +kernel,by decide +kernel⟩) (bG (am (mv' 2) mh')) (fun _ _ _ _ _=>(ad (i:=0) (show List.Nodup ((["_law_k"]:List Str)++([]:List Str)) from by decide +kernel) rfl (Or.inl rfl))) (fun _ _ _ _ _=>bz) (fun _ _ _ _ _=>(aM iz (by rfl) T.str sf (mc' (mv' 0) mn'))))) mn')) mn')))) (aa (cj (d5 PySem.F.slot_list_append PySem.F.type_list_append d0 (mv' 1) (mc' (qV (ap (aI hr.units) (am (mv' 2) mh') ae (az _)) (af aF ae (aM iz (by rfl) T.str sf (mc' (am (mv' 2) mh') mn'))) ae) mn')))))) PassesOwn.never)
   (aa (ac (qV (ap (jG hr.units) (mv' 1) (bH mn') (az _)) (iR PySem.F.slot_str_join PySem.F.type_str_join ia ae (mc' (mv' 1) mn')) ae))))),?_⟩
 case ar=>rintro as Kc ⟨h,R,rfl,_⟩; rfl
 rintro as Kc hl ⟨h,R,rfl,ho,hR,hRl,k⟩
 have n4:=ho.n4
 refine ag (MSt.mk [some (.imm (.tuple (R.map Mv.d))),none,none] [] 0) rfl ?_
 walk_at "xs"
 refine cu ?_
 walk_at "xx"
 refine bi (fun i m=>∃ a,m = MSt.mk [some (.imm (.tuple (R.map Mv.d))),some (.obj 0),a] [((R.take i).map wF).map .str] 0) ⟨none,rfl⟩ ?_ ?_
 ·rintro i d m e n ⟨a,rfl⟩
  obtain ⟨mv,emv,rfl,hi⟩:=gmap e
  have hm:=hR mv (List.mem_of_getElem? emv)
  have fin:∀ m',m' = MSt.mk [some (.imm (.tuple (R.map Mv.d))),some (.obj 0),some (.imm mv.d)] [((R.take i).map wF).map .str++[.str (wF mv)]] 0→∃ a,m' = MSt.mk [some (.imm (.tuple (R.map Mv.d))),some (.obj 0),a] [((R.take (i + 1)).map wF).map .str] 0:=fun m' e=>⟨some (.imm mv.d),by rw [e,List.take_succ,emv,List.map_append,List.map_append]; rfl⟩
  cases mv with
  | come o =>
   walk_at "xs"
   refine c7 (ds:=[.str "come",lnD o]) rfl rfl ?_
   walk_at "xs"
   refine aA (fun _=>?_) (fun z=>(z rfl).elim)
   have h10:∀ x∈o,x < 10:=fun x hx=>by have:=hm.2.2 x hx; omega
   have hl4:o.length≤4:=by rw [hm.1]; exact n4
   walk_at "xs"
   refine x_ms ?_
   walk_at "xs"
   refine x_ss ?_
   walk_at "xs"
   refine c7 (ds:=[.str "come",lnD o]) rfl rfl ?_
   refine yn (ds:=natD o) ?_
   refine bi (fun j m=>∃ a,m = MSt.mk [a] [((R.take i).map wF).map .str,((o.take j).map fig).map .str] 2) ⟨none,rfl⟩ ?_ ?_
   ·rintro j d m e n ⟨a,rfl⟩
    obtain ⟨x,ex,rfl,hj⟩:=gmap e
    have:=h10 x (List.mem_of_getElem? ex)
    walk_at "xs"
    refine AA (fc (by omega)) ?_
    walk_at "xs"
    refine ⟨_,rfl,by rw [List.length_map,List.length_map,List.length_take,sizeLine_eq]; omega,some (.imm (.int (x:Int))),?_⟩
    rw [List.take_succ,ex,List.map_append,List.map_append]
    rfl
   ·rintro m n ⟨a2,rfl⟩
    rw [aB,List.take_length]
    walk_at "xn"
    refine' CI ?hz ?_
    case hz=>show 1 + ((o.map fig).map PyData.str).length≤sizeLine; rw [sizeLine_eq,List.length_map,List.length_map]; omega
    walk_at "xs"
    refine oO (ts:=("c" : Str) :: o.map fig) rfl (xT hl4 h10) ?_
    rw [Ia]
    walk_at "xs"
    refine ⟨_,rfl,by rw [List.length_map,List.length_map,List.length_take,sizeLine_eq]; omega,?_⟩
    exact fin _ rfl
  | done j =>
   walk_at "xs"
   refine c7 (ds:=[.str "done",.int (j:Int)]) rfl rfl ?_
   walk_at "xs"
   refine aA (fun z=>absurd z (by decide +kernel)) (fun _=>?_)
   walk_at "xs"
   refine ny ?_
   walk_at "xs"
   refine c7 (ds:=[.str "done",.int (j:Int)]) rfl rfl ?_
   walk_at "xs"
   refine aA (fun _=>?_) (fun z=>(z rfl).elim)
   walk_at "xs"
   refine c7 (ds:=[.str "done",.int (j:Int)]) rfl rfl ?_
   walk_at "xs"
   have hj:j < h.ss.length:=hm
   refine AA (fc (by omega)) ?_
   refine yE (by have:=Af (n:=j) (by omega); rw [sizeLine_eq,show ("d" : Str).length = 1 by decide +kernel]; show 1 + (fig j).length≤_; omega) ?_
   walk_at "xs"
   refine ⟨_,rfl,by rw [List.length_map,List.length_map,List.length_take,sizeLine_eq]; omega,?_⟩
   exact fin _ rfl
  | still =>
   walk_at "xs"
   refine c7 (ds:=[.str "still"]) rfl rfl ?_
   walk_at "xs"
   refine aA (fun z=>absurd z (by decide +kernel)) (fun _=>?_)
   walk_at "xs"
   refine ny ?_
   walk_at "xs"
   refine c7 (ds:=[.str "still"]) rfl rfl ?_
   walk_at "xs"
   refine aA (fun z=>absurd z (by decide +kernel)) (fun _=>?_)
   walk_at "xs"
   refine ⟨_,rfl,by rw [List.length_map,List.length_map,List.length_take,sizeLine_eq]; omega,?_⟩
   exact fin _ rfl
 ·rintro m n ⟨a,rfl⟩
  rw [List.length_map,List.take_length]
  have all:∀ w∈R.map wF,AT 10 w:=fun w hw=>by
   obtain ⟨mv,hm,rfl⟩:=List.mem_map.mp hw
   exact (kO ho (hR mv hm)).2
  walk_at "xs"
  refine ny ?_
  walk_at "xs"
  refine x_ne (d1:=.list ((R.map wF).map .str)) (d2:=.list []) rfl rfl ((x6 all).ok (by decide)) rfl ?_
  walk_at "xs"
  have k':=k
  unfold ji at k'
  cases hR2:R with
  | nil =>
   rw [if_pos hR2] at k'
   rw [if_neg (show ¬ (!PyData.eqv (.list ((List.map wF []).map .str)) (.list [])) = true by decide)]
   walk_at "xs"
   exact k'
  | cons mv R' =>
   rw [if_neg (by rw [hR2]; exact fun z=>by cases z),hR2] at k'
   rw [if_pos (show (!PyData.eqv (.list ((List.map wF (mv :: R')).map .str)) (.list [])) = true from rfl)]
   walk_at "xs"
   refine x_ms ?_
   walk_at "xs"
   refine x_ss ?_
   walk_at "xs"
   refine oO (ts:=(mv :: R').map wF) rfl (PyProof.Rows.joinOk_of_weight (by rw [←hR2]; have:=jP all hRl; omega) (by decide +kernel)) ?_
   walk_at "xs"
   exact k'
theorem mi (T:Bl K mg) (D:DefM K mg "_law_grown" d9 ["_law_tape_here", "_law_hall_here"]) (GFloor___init__:uH P w K mg base "Floor" 3 2 o1) (G_law_run:FnM P w K mg base "_law_run" 2 2 mY) (G_law_draw:FnM P w K mg base "_law_draw" 1 2 i6) (GFloor_go:jU P w K mg base "Floor" "go" 7 2 Fe) (GFloor_run_so_far:jU P w K mg base "Floor" "run_so_far" 1 1 yu):FnM P w K mg base "_law_grown" 8 2 qY:=by
 refine aG D sc_law_grown rfl (nN:=5) rfl (by decide) ?ar fun cdv A outer s H E f hr=>⟨_,(mz' (ai (i:=2) sc_law_grown.nd rfl (Or.inl rfl) (wy GFloor___init__ (hr.mono (by decide)) (mc' (mv' 1) (mc' (aw (mc' ae mn')) mn'))))
   (mz' (ai (i:=3) sc_law_grown.nd rfl (Or.inl rfl) (af aF (mf' G_law_run (hr.mono (by decide)) (mc' (mv' 0) (mc' (mv' 1) mn'))) (aw (mc' (aw (mc' ae mn')) (mc' (aw (mc' ae (mc' (vM T.tuple T.range (mc' (ay aP (by rfl) T.len b5 (mc' (am (mv' 1) mh') mn')) mn')) mn'))) mn')))))
   (mz' (bT (bX (by rfl) T.range (mc' (af aF mh' (mf' G_law_draw (hr.mono (by decide)) (mc' (mv' 0) (mc' mh' mn')))) mn')) (ad (i:=4) sc_law_grown.nd rfl (Or.inl rfl)) (aa (cj (ya GFloor_go (hr.mono (by decide)) (mv' 2) (mc' (am (mv' 3) (af cJ (mv' 4) (ay aP (by rfl) T.len b5 (mc' (mv' 3) mn')))) mn')))) PassesOwn.never)
   (aa (ac (uc GFloor_run_so_far (hr.mono (by decide)) (mv' 2))))))),?_⟩
 case ar=>rintro as Kc ⟨t,c,h,rfl,_⟩; rfl
 rintro as Kc hl ⟨t,c,h,rfl,ho,ht,hc,k⟩
 have n1:=ho.n1
 have n4:=ho.n4
 refine ag (MSt.mk [some (.at 0 []),some (.imm (.tuple [.tuple [.int h.a,.int h.b],.tuple (h.ss.map Srv.d),.bool h.mv])),none,none,none] [[t]] 1) rfl ?_
 walk_at "xs"
 refine ⟨h,.two,rfl,ho,?_⟩
 refine kQ ?_
 walk_at "xx"
 refine ⟨t,_,h,rfl,ho,ht,by omega,fun R0 t hR0 hR ht=>?_⟩
 walk_at "xx"
 rw [List.length_map]
 refine ⟨⟨by omega,by omega⟩,?_⟩
 walk_at "xs"
 refine mf (by rw [sizeLine_eq,List.length_map]; show _ + 2≤_; omega) ?_
 obtain ⟨M,eM,hM,hMl⟩ : ∃ M:List Mv,R0.map Mv.d++[PyData.tuple [.str "still"],.tuple [.str "come",.tuple (ci 0 ((h.ss.length:Nat):Int).toNat)]] = M.map Mv.d∧(∀ mv∈M,mv.Ok3 h)∧(2≤M.length∧M.length≤300):=by
  refine ⟨R0++[.still,.come (List.range h.ss.length)],?_,fun mv hm=>?_,?_⟩
  ·rw [List.map_append]
   congr 1
   have:ci 0 ((h.ss.length:Nat):Int).toNat = natD (List.range h.ss.length):=by
    rw [Int.toNat_natCast]; simp [ci,natD]
   rw [this]; rfl
  ·rcases List.mem_append.mp hm with z | z
   ·exact hR mv z
   ·rcases List.mem_cons.mp z with rfl | z
    ·trivial
    ·rw [List.mem_singleton.mp z]
     exact ⟨List.length_range,List.nodup_range,fun x hx=>List.mem_range.mp hx⟩
  ·rw [List.length_append]; show 2≤_ + 2∧_ + 2≤300; omega
 rw [eM]
 walk_at "xs"
 refine ⟨t,_,_,rfl,ht,by omega,by decide,by decide,fun q t hq0 hq1 ht=>?_⟩
 obtain ⟨qn,rfl⟩:=Int.eq_ofNat_of_zero_le hq0
 walk_at "xx"
 refine ⟨by omega,by omega,?_⟩
 refine bi (fun i m=>∃ a R S,m = MSt.mk [some (.at 0 []),some (.imm (.tuple [.tuple [.int h.a,.int h.b],.tuple (h.ss.map Srv.d),.bool h.mv])),some (.at 1 []),some (.imm (.tuple (M.map Mv.d))),a] [[t],[flT h .two R (S++[scF h .two (sc0 h) R])]] 1∧R.length = i∧S.length = i∧∀ mv∈R,mv.Ok3 h) ⟨none,[],[],rfl,rfl,rfl,fun _ z=>by cases z⟩ ?_ ?_
 ·rintro i d m e n ⟨a,R,S,rfl,hRl,hSl,hRo⟩
  obtain ⟨hi,rfl⟩:=cC e
  walk_at "xs"
  rw [List.length_map,Int.zero_add]
  refine vD (by omega) ?_
  have hlt:i % M.length < M.length:=Nat.mod_lt _ (by omega)
  obtain ⟨mv,emv⟩ : ∃ mv,M[i % M.length]? = some mv:=⟨_,List.getElem?_eq_getElem hlt⟩
  have hmv:=hM mv (List.mem_of_getElem? emv)
  rw [←Int.natCast_emod]
  refine bM (bc (v:=mv.d) (by rw [List.getElem?_map,emv]; rfl)) ?_
  walk_at "xs"
  refine ⟨h,.two,R,S,scF h .two (sc0 h) R,mv,rfl,ho,trivial,yr (r:=.two) ho trivial (fun m hm=>(hRo m hm).ok ho) (FX ho .two),hmv.ok ho,by omega,by omega,?_⟩
  walk_at "xx"
  refine ⟨some (.imm (.int (i:Int))),R++[mv],S++[scF h .two (sc0 h) R],?_,by rw [List.length_append,hRl]; rfl,by rw [List.length_append,hSl]; rfl,fun m hm=>?_⟩
  ·rw [oa]
  ·rcases List.mem_append.mp hm with z | z
   ·exact hRo m z
   ·rw [List.mem_singleton.mp z]; exact hmv
 ·rintro m n ⟨a,R,S,rfl,hRl,hSl,hRo⟩
  rw [aH] at hRl
  walk_at "xs"
  refine ⟨h,.two,R,_,rfl,?_⟩
  walk_at "xx"
  exact k R t (by omega) hRo (ht.mono (by omega))
theorem JX (T:Bl K mg) {ff:Addr} {fd:FuncData} (F:Fun K "law" "law" slaw ff fd) (G_law_tape:FnM P w K mg base "_law_tape" 1 1 rD) (G_law_hall:FnM P w K mg base "_law_hall" 3 2 uv) (G_law_run:FnM P w K mg base "_law_run" 2 2 mY) (G_law_draw:FnM P w K mg base "_law_draw" 1 2 i6) (G_law_grown:FnM P w K mg base "_law_grown" 8 2 qY) (G_law_text:FnM P w K mg base "_law_text" 1 1 o2) (Grun_text:FnM P w K mg base "run_text" 3 1 o2) (Gread_run:FnM P w K mg base "read_run" 7 2 uy):FnOk P w K mg base CX0 9 ff fd ["_law_script"] (spOf ⟨K,w⟩ 1 wN):=by
 refine A9 F sclaw rfl (nN:=8) rfl (by decide) fun cdv A outer s H E f hr=>⟨_,(mz' (ai (i:=1) sclaw.nd rfl (Or.inl rfl) (mf' G_law_tape (hr.mono (by decide)) (mc' (mv' 0) mn')))
   (mz' (bT (bX (by rfl) T.range (mc' mh' mn')) (ad (i:=2) sclaw.nd rfl (Or.inl rfl)) (mz' (ai (i:=3) sclaw.nd rfl (Or.inl rfl) (mf' G_law_hall (hr.mono (by decide)) (mc' (mv' 1) (mc' mh' mn'))))
   (mz' (ai (i:=4) sclaw.nd rfl (Or.inl rfl) (mf' G_law_run (hr.mono (by decide)) (mc' (mv' 1) (mc' (mv' 3) mn'))))
   (mz' (aE (EW.pt (j8 (ap (aI hr.units) (mv' 2) mh' (az _)) (ie (ap (aI hr.units) (mf' G_law_draw (hr.mono (by decide)) (mc' (mv' 1) (mc' mh' mn'))) mh' (az _))))) (aa (ai (i:=4) sclaw.nd rfl (Or.inl rfl) (mf' G_law_grown (hr.mono (by decide)) (mc' (mv' 1) (mc' (mv' 3) mn'))))) aq)
   (mz' (ai (i:=5) sclaw.nd rfl (Or.inl rfl) (ay (fI hr.gd hr.u200) (by rfl) T.repr mF (mc' (mv' 4) mn')))
   (aa (bT (bX (by rfl) T.range (mc' mh' mn')) (ad (i:=6) sclaw.nd rfl (Or.inl rfl)) (mz' (ai (i:=7) sclaw.nd rfl (Or.inl rfl) (mf' G_law_text (hr.mono (by decide)) (mc' (mv' 4) mn')))
   (aa (aE (EW.pt (iX (ap (jG hr.units) (mf' Grun_text (hr.mono (by decide)) (mc' (mv' 4) mn')) (mv' 7) (az _)) (iX (ap (jG hr.units) (ay (fI hr.gd hr.u200) (by rfl) T.repr mF (mc' (mf' Gread_run (hr.mono (by decide)) (mc' (mv' 3) (mc' (mv' 7) mn'))) mn')) (mv' 5) (az _)) (j4 (ap (jG hr.units) (ay (fI hr.gd hr.u200) (by rfl) T.repr mF (mc' (mv' 4) mn')) (mv' 5) (az _)))))) (aa (ac fb)) aq))) PassesOwn.never)))))) PassesOwn.never)
   (aa (ac fb)))),?_⟩
 rintro as Kc hl ⟨ns,rfl,hn,k⟩
 refine ag (MSt.mk [some (.imm (.list (ns.map .int))),none,none,none,none,none,none,none] [] 0) rfl ?_
 walk_at "xs"
 refine ⟨ns,rfl,hn,fun t ht=>?_⟩
 walk_at "xn"
 refine kQ ?_
 walk_at "xx"
 refine ⟨by decide,by decide,?_⟩
 refine bi (fun i m=>∃ a2 a3 a4 a5 a6 a7 t',m = MSt.mk [some (.imm (.list (ns.map .int))),some (.at 0 []),a2,a3,a4,a5,a6,a7] [[t']] 0∧TapeK (3000 * i) t') ⟨none,none,none,none,none,none,t,rfl,ht⟩ ?_ ?_
 ·rintro i d m e n ⟨a2,a3,a4,a5,a6,a7,t,rfl,ht⟩
  obtain ⟨hi,rfl⟩:=cC e
  have hi10:i < 10:=hi
  walk_at "xs"
  refine ⟨t,_,rfl,ht,by omega,fun h t ho ht=>?_⟩
  walk_at "xx"
  refine ⟨t,_,h,rfl,ho,ht,by omega,fun R t hRl hR ht=>?_⟩
  refine ky ?_
  walk_at "xn"
  refine qF ?_
  refine x_JS (fun m=>∃ (R:List Mv) (t':PyData),R.length≤300∧(∀ mv∈R,mv.Ok3 h)∧m = MSt.mk [some (.imm (.list (ns.map .int))),some (.at 0 []),some (.imm (.int (0 + (i:Int)))),some (.imm h.d),some (.imm (runD R)),a5,a6,a7] [[t']] 0∧TapeK (3000 * i + 2900) t') (fun N J=>?_) ?_
  ·have skip:N (MSt.mk [some (.imm (.list (ns.map .int))),some (.at 0 []),some (.imm (.int (0 + (i:Int)))),some (.imm h.d),some (.imm (runD R)),a5,a6,a7] [[t]] 0):=J _ ⟨R,t,by omega,hR,rfl,ht.mono (by omega)⟩
   walk_at "xs"
   refine aA (fun z=>?_) (fun z=>?_)
   ·walk_at "xs"
    refine ⟨t,_,_,rfl,ht,by omega,by decide,by decide,fun y t hy0 hy1 ht=>?_⟩
    walk_at "xx"
    refine aA (fun z=>?_) (fun z=>?_)
    ·walk_at "xs"
     refine ⟨t,_,h,rfl,ho,ht,by omega,fun R2 t hR2l hR2 ht=>?_⟩
     walk_at "xx"
     exact J _ ⟨R2,t,hR2l,hR2,rfl,ht.mono (by omega)⟩
    ·walk_at "xs"
     exact J _ ⟨R,t,by omega,hR,rfl,ht.mono (by omega)⟩
   ·refine bP ?_
    walk_at "xs"
    exact skip
  ·rintro m ⟨R,t,hRl,hR,rfl,ht⟩
   have ff:=runF ho (fun mv hm=>(hR mv hm).ok2 ho) hRl
   walk_at "xs"
   refine nt ff rfl (by decide) (by decide) ?_
   walk_at "xs"
   refine ⟨by decide,by decide,?_⟩
   refine bi (fun j m=>∃ a6 a7,m = MSt.mk [some (.imm (.list (ns.map .int))),some (.at 0 []),some (.imm (.int (0 + (i:Int)))),some (.imm h.d),some (.imm (runD R)),some (.imm (.str (runD R).shown)),a6,a7] [[t]] 0) ⟨a6,a7,rfl⟩ ?_ ?_
   ·rintro j d m e n ⟨a6,a7,rfl⟩
    obtain ⟨hj,rfl⟩:=cC e
    walk_at "xs"
    refine ⟨h,R,rfl,ho,hR,hRl,?_⟩
    walk_at "xx"
    refine ⟨h,R,rfl,ho,hR,hRl,?_⟩
    walk_at "xn"
    refine q9 rfl ?_
    refine vG ?_
    rw [decide_eq_true rfl]
    refine ol ?_
    refine bP ?_
    walk_at "xs"
    refine ⟨h,R,rfl,ho,hR,hRl,?_⟩
    walk_at "xx"
    refine nt ff rfl (by decide) (by decide) ?_
    refine q9 rfl ?_
    refine vG ?_
    rw [decide_eq_true rfl]
    refine ol ?_
    refine bP ?_
    walk_at "xs"
    refine nt ff rfl (by decide) (by decide) ?_
    refine q9 rfl ?_
    refine vG ?_
    rw [decide_eq_true rfl]
    refine ol ?_
    rw [if_neg (show ¬ (!true) = true by decide)]
    walk_at "xs"
    exact ⟨_,_,rfl⟩
   ·rintro m n ⟨a6,a7,rfl⟩
    walk_at "xs"
    exact ⟨_,_,_,_,_,_,t,rfl,ht.mono (by omega)⟩
 rintro m n ⟨a2,a3,a4,a5,a6,a7,t,rfl,ht⟩
 walk_at "xs"
 exact k
end
theorem DE {l:PySem.W.OpenLaw} {w:World} {K:PySem.W.Frag} {h:Heap} {mg:Str→Option Value} {fa:Addr} (X:K.In h) (G:h.Ns mainGlobals mg) (hfa:mg "law" = some (.ref fa)) (dis_whole:DefK K "is_whole" i9) (dis_whole_within:DefK K "is_whole_within" cc) (dis_tuple_of:DefK K "is_tuple_of" dG) (dis_figures:DefK K "is_figures" eh) (dread_figure:DefK K "read_figure" dv) (dis_less:DefK K "is_less" kb) (dis_line:DefK K "is_line" jY) (dplace_of_lines:DefK K "place_of_lines" cy) (dfirst_shortest:DefK K "first_shortest" cx) (dwait_at:DefK K "wait_at" ki) (dfirst_quickest:DefK K "first_quickest" cE) (dsent_to:DefK K "sent_to" kg) (dfirst_stand:DefK K "first_stand" du) (dis_order:DefK K "is_order" iW) (dis_move:DefK K "is_move" jV) (dwith_more:DefK K "with_more" fG) (dcome_to:DefK K "come_to" j1) (ddone_at:DefK K "done_at" j0) (dnext_shift:DefK K "next_shift" db) (dsettled:DefK K "settled" kI) (dturn_behind:DefK K "turn_behind" dF) (dline_of:DefK K "line_of" kH) (dmoved_on:DefK K "moved_on" i8) (dfigures_of:DefK K "figures_of" df) (dmove_word:DefK K "move_word" gg) (drun_text:DefK K "run_text" fg) (dread_figures:DefK K "read_figures" ck) (dread_move:DefK K "read_move" gc) (dread_run:DefK K "read_run" iw) (dcounts_behind:DefK K "counts_behind" cP) (daskers_settled:DefK K "askers_settled" bx) (daskers_behind:DefK K "askers_behind" cK) (dfirst_scene:DefK K "first_scene" dB) (dscene_behind:DefK K "scene_behind" dh) (dFloor___init__:IniDK K "Floor" "Floor.__init__" bf ["self", "hall", "rule"]) (dFloor_go:MthD K "Floor" "go" "Floor.go" cV ["self", "move"]) (dFloor_run_so_far:MthD K "Floor" "run_so_far" "Floor.run_so_far" aV ["self"]) (d_law_tape:DefK K "_law_tape" fX) (d_law_draw:DefK K "_law_draw" fY) (d_law_frac:DefK K "_law_frac" fJ) (d_law_all_lines:DefK K "_law_all_lines" bU) (d_law_hall:DefK K "_law_hall" bA) (d_law_run:DefK K "_law_run" iq) (d_law_text:DefK K "_law_text" dN) (d_law_grown:DefK K "_law_grown" d9) (dlaw:DefK K "law" slaw) (zlen:PySem.W.nsIn K mainGlobals "len" = some none) (zabs:PySem.W.nsIn K mainGlobals "abs" = some none) (zrange:PySem.W.nsIn K mainGlobals "range" = some none) (zlist:PySem.W.nsIn K mainGlobals "list" = some none) (ztuple:PySem.W.nsIn K mainGlobals "tuple" = some none) (zint:PySem.W.nsIn K mainGlobals "int" = some none) (zsum:PySem.W.nsIn K mainGlobals "sum" = some none) (zzip:PySem.W.nsIn K mainGlobals "zip" = some none) (zmin:PySem.W.nsIn K mainGlobals "min" = some none) (zmax:PySem.W.nsIn K mainGlobals "max" = some none) (zenumerate:PySem.W.nsIn K mainGlobals "enumerate" = some none) (zsorted:PySem.W.nsIn K mainGlobals "sorted" = some none) (zisinstance:PySem.W.nsIn K mainGlobals "isinstance" = some none) (zbool:PySem.W.nsIn K mainGlobals "bool" = some none) (zstr:PySem.W.nsIn K mainGlobals "str" = some none) (zrepr:PySem.W.nsIn K mainGlobals "repr" = some none) (cFIGURES:ConK K "FIGURES" (.str "0123456789")) (cVOID_RUN:ConK K "VOID_RUN" (.str "-"))   (ff_Floor_hall:InsF K "Floor" "hall") (ff_Floor_rule:InsF K "Floor" "rule") (ff_Floor_moves:InsF K "Floor" "moves") (ff_Floor_scenes:InsF K "Floor" "scenes") :
  ∃ fd:FuncData,(∀ (s:Shared) (v:Value),BindsTo s fd ⟨[v],[]⟩ [("_law_script",v)])∧∀ base:Heap,K.In base→base.Ns mainGlobals mg→FnOk l.prog w K mg base CX0 9 fa fd ["_law_script"] (spOf ⟨K,w⟩ 1 wN):=by
 obtain ⟨f,fd,a,F⟩:=dlaw.ex
 have e:=hfa.symm.trans (PySem.W.mg_of X G a)
 cases e
 have T:Bl K mg:=⟨PySem.W.mg_none_of X G zlen,PySem.W.mg_none_of X G zabs,PySem.W.mg_none_of X G zrange,PySem.W.mg_none_of X G zlist,PySem.W.mg_none_of X G ztuple,PySem.W.mg_none_of X G zint,PySem.W.mg_none_of X G zsum,PySem.W.mg_none_of X G zzip,PySem.W.mg_none_of X G zmin,PySem.W.mg_none_of X G zmax,PySem.W.mg_none_of X G zenumerate,PySem.W.mg_none_of X G zsorted,PySem.W.mg_none_of X G zisinstance,PySem.W.mg_none_of X G zbool,PySem.W.mg_none_of X G zstr,PySem.W.mg_none_of X G zrepr,cFIGURES.m X G,cVOID_RUN.m X G,ff_Floor_hall,ff_Floor_rule,ff_Floor_moves,ff_Floor_scenes⟩
 have Dis_whole:=dis_whole.m (ps:=["thing"]) X G fun f fd F=>F.binds fun _ _ _ _ _ _ us hl=>match us,hl with | [_],_=>rfl
 have Dis_whole_within:=dis_whole_within.m (ps:=["thing", "least", "most"]) X G fun f fd F=>F.binds fun _ _ _ _ _ _ us hl=>match us,hl with | [_,_,_],_=>rfl
 have Dis_tuple_of:=dis_tuple_of.m (ps:=["thing", "many"]) X G fun f fd F=>F.binds fun _ _ _ _ _ _ us hl=>match us,hl with | [_,_],_=>rfl
 have Dis_figures:=dis_figures.m (ps:=["word"]) X G fun f fd F=>F.binds fun _ _ _ _ _ _ us hl=>match us,hl with | [_],_=>rfl
 have Dread_figure:=dread_figure.m (ps:=["word"]) X G fun f fd F=>F.binds fun _ _ _ _ _ _ us hl=>match us,hl with | [_],_=>rfl
 have Dis_less:=dis_less.m (ps:=["one", "other"]) X G fun f fd F=>F.binds fun _ _ _ _ _ _ us hl=>match us,hl with | [_,_],_=>rfl
 have Dis_line:=dis_line.m (ps:=["hall", "thing"]) X G fun f fd F=>F.binds fun _ _ _ _ _ _ us hl=>match us,hl with | [_,_],_=>rfl
 have Dplace_of_lines:=dplace_of_lines.m (ps:=["hall", "lines"]) X G fun f fd F=>F.binds fun _ _ _ _ _ _ us hl=>match us,hl with | [_,_],_=>rfl
 have Dfirst_shortest:=dfirst_shortest.m (ps:=["lines", "order"]) X G fun f fd F=>F.binds fun _ _ _ _ _ _ us hl=>match us,hl with | [_,_],_=>rfl
 have Dwait_at:=dwait_at.m (ps:=["hall", "lines", "line"]) X G fun f fd F=>F.binds fun _ _ _ _ _ _ us hl=>match us,hl with | [_,_,_],_=>rfl
 have Dfirst_quickest:=dfirst_quickest.m (ps:=["hall", "lines", "order"]) X G fun f fd F=>F.binds fun _ _ _ _ _ _ us hl=>match us,hl with | [_,_,_],_=>rfl
 have Dsent_to:=dsent_to.m (ps:=["hall", "rule", "stand", "order"]) X G fun f fd F=>F.binds fun _ _ _ _ _ _ us hl=>match us,hl with | [_,_,_,_],_=>rfl
 have Dfirst_stand:=dfirst_stand.m (ps:=["hall"]) X G fun f fd F=>F.binds fun _ _ _ _ _ _ us hl=>match us,hl with | [_],_=>rfl
 have Dis_order:=dis_order.m (ps:=["hall", "thing"]) X G fun f fd F=>F.binds fun _ _ _ _ _ _ us hl=>match us,hl with | [_,_],_=>rfl
 have Dis_move:=dis_move.m (ps:=["hall", "thing"]) X G fun f fd F=>F.binds fun _ _ _ _ _ _ us hl=>match us,hl with | [_,_],_=>rfl
 have Dwith_more:=dwith_more.m (ps:=["lines", "line", "more"]) X G fun f fd F=>F.binds fun _ _ _ _ _ _ us hl=>match us,hl with | [_,_,_],_=>rfl
 have Dcome_to:=dcome_to.m (ps:=["hall", "lines", "line"]) X G fun f fd F=>F.binds fun _ _ _ _ _ _ us hl=>match us,hl with | [_,_,_],_=>rfl
 have Ddone_at:=ddone_at.m (ps:=["lines", "line"]) X G fun f fd F=>F.binds fun _ _ _ _ _ _ us hl=>match us,hl with | [_,_],_=>rfl
 have Dnext_shift:=dnext_shift.m (ps:=["hall", "lines"]) X G fun f fd F=>F.binds fun _ _ _ _ _ _ us hl=>match us,hl with | [_,_],_=>rfl
 have Dsettled:=dsettled.m (ps:=["hall", "lines"]) X G fun f fd F=>F.binds fun _ _ _ _ _ _ us hl=>match us,hl with | [_,_],_=>rfl
 have Dturn_behind:=dturn_behind.m (ps:=["hall", "rule", "turn"]) X G fun f fd F=>F.binds fun _ _ _ _ _ _ us hl=>match us,hl with | [_,_,_],_=>rfl
 have Dline_of:=dline_of.m (ps:=["hall", "rule", "stand", "move"]) X G fun f fd F=>F.binds fun _ _ _ _ _ _ us hl=>match us,hl with | [_,_,_,_],_=>rfl
 have Dmoved_on:=dmoved_on.m (ps:=["hall", "rule", "stand", "move"]) X G fun f fd F=>F.binds fun _ _ _ _ _ _ us hl=>match us,hl with | [_,_,_,_],_=>rfl
 have Dfigures_of:=dfigures_of.m (ps:=["numbers"]) X G fun f fd F=>F.binds fun _ _ _ _ _ _ us hl=>match us,hl with | [_],_=>rfl
 have Dmove_word:=dmove_word.m (ps:=["move"]) X G fun f fd F=>F.binds fun _ _ _ _ _ _ us hl=>match us,hl with | [_],_=>rfl
 have Drun_text:=drun_text.m (ps:=["run"]) X G fun f fd F=>F.binds fun _ _ _ _ _ _ us hl=>match us,hl with | [_],_=>rfl
 have Dread_figures:=dread_figures.m (ps:=["signs"]) X G fun f fd F=>F.binds fun _ _ _ _ _ _ us hl=>match us,hl with | [_],_=>rfl
 have Dread_move:=dread_move.m (ps:=["hall", "word"]) X G fun f fd F=>F.binds fun _ _ _ _ _ _ us hl=>match us,hl with | [_,_],_=>rfl
 have Dread_run:=dread_run.m (ps:=["hall", "text"]) X G fun f fd F=>F.binds fun _ _ _ _ _ _ us hl=>match us,hl with | [_,_],_=>rfl
 have Dcounts_behind:=dcounts_behind.m (ps:=["counts", "word"]) X G fun f fd F=>F.binds fun _ _ _ _ _ _ us hl=>match us,hl with | [_,_],_=>rfl
 have Daskers_settled:=daskers_settled.m (ps:=["hall", "askers"]) X G fun f fd F=>F.binds fun _ _ _ _ _ _ us hl=>match us,hl with | [_,_],_=>rfl
 have Daskers_behind:=daskers_behind.m (ps:=["hall", "askers", "line", "word", "number"]) X G fun f fd F=>F.binds fun _ _ _ _ _ _ us hl=>match us,hl with | [_,_,_,_,_],_=>rfl
 have Dfirst_scene:=dfirst_scene.m (ps:=["hall"]) X G fun f fd F=>F.binds fun _ _ _ _ _ _ us hl=>match us,hl with | [_],_=>rfl
 have Dscene_behind:=dscene_behind.m (ps:=["hall", "rule", "scene", "move"]) X G fun f fd F=>F.binds fun _ _ _ _ _ _ us hl=>match us,hl with | [_,_,_,_],_=>rfl
 have DFloor___init__:=dFloor___init__.m X G
 have DFloor_go:=dFloor_go
 have DFloor_run_so_far:=dFloor_run_so_far
 have D_law_tape:=d_law_tape.m (ps:=["_law_script"]) X G fun f fd F=>F.binds fun _ _ _ _ _ _ us hl=>match us,hl with | [_],_=>rfl
 have D_law_draw:=d_law_draw.m (ps:=["_law_tape_here", "_law_many"]) X G fun f fd F=>F.binds fun _ _ _ _ _ _ us hl=>match us,hl with | [_,_],_=>rfl
 have D_law_frac:=d_law_frac.m (ps:=["_law_top", "_law_bottom"]) X G fun f fd F=>F.binds fun _ _ _ _ _ _ us hl=>match us,hl with | [_,_],_=>rfl
 have D_law_all_lines:=d_law_all_lines.m (ps:=["_law_rooms"]) X G fun f fd F=>F.binds fun _ _ _ _ _ _ us hl=>match us,hl with | [_],_=>rfl
 have D_law_hall:=d_law_hall.m (ps:=["_law_tape_here", "_law_most"]) X G fun f fd F=>F.binds fun _ _ _ _ _ _ us hl=>match us,hl with | [_,_],_=>rfl
 have D_law_run:=d_law_run.m (ps:=["_law_tape_here", "_law_hall_here"]) X G fun f fd F=>F.binds fun _ _ _ _ _ _ us hl=>match us,hl with | [_,_],_=>rfl
 have D_law_text:=d_law_text.m (ps:=["_law_run_here"]) X G fun f fd F=>F.binds fun _ _ _ _ _ _ us hl=>match us,hl with | [_],_=>rfl
 have D_law_grown:=d_law_grown.m (ps:=["_law_tape_here", "_law_hall_here"]) X G fun f fd F=>F.binds fun _ _ _ _ _ _ us hl=>match us,hl with | [_,_],_=>rfl
 refine ⟨fd,fun s v=>?_,fun base _ _=>?_⟩
 ·obtain ⟨oc,od,kV,doc,pm,an,cdv,ct,osl,rfl,lk,hcd⟩:=F.ex
  exact .of_eq rfl
 ·have Gis_whole:=qw (P:=l.prog) (w:=w) (base:=base) T Dis_whole
  have Gis_whole_within:=gi (P:=l.prog) (w:=w) (base:=base) T Dis_whole_within Gis_whole
  have Gis_tuple_of:=kj (P:=l.prog) (w:=w) (base:=base) T Dis_tuple_of
  have Gis_figures:=lS (P:=l.prog) (w:=w) (base:=base) T Dis_figures
  have Gread_figure:=ka (P:=l.prog) (w:=w) (base:=base) T Dread_figure Gis_figures
  have Gis_less:=sm (P:=l.prog) (w:=w) (base:=base) T Dis_less
  have Gis_line:=r8 (P:=l.prog) (w:=w) (base:=base) T Dis_line Gis_whole_within
  have Gplace_of_lines:=gW (P:=l.prog) (w:=w) (base:=base) T Dplace_of_lines
  have Gfirst_shortest:=h7 (P:=l.prog) (w:=w) (base:=base) T Dfirst_shortest
  have Gwait_at:=sR (P:=l.prog) (w:=w) (base:=base) T Dwait_at
  have Gfirst_quickest:=gQ (P:=l.prog) (w:=w) (base:=base) T Dfirst_quickest Gwait_at Gis_less
  have Gsent_to:=qL (P:=l.prog) (w:=w) (base:=base) T Dsent_to Gfirst_shortest Gfirst_quickest Gplace_of_lines
  have Gfirst_stand:=jQ (P:=l.prog) (w:=w) (base:=base) T Dfirst_stand
  have Gis_order:=qB (P:=l.prog) (w:=w) (base:=base) T Dis_order Gis_tuple_of Gis_line
  have Gis_move:=tP (P:=l.prog) (w:=w) (base:=base) T Dis_move Gis_tuple_of Gis_order Gis_line
  have Gwith_more:=nH (P:=l.prog) (w:=w) (base:=base) T Dwith_more
  have Gcome_to:=uL (P:=l.prog) (w:=w) (base:=base) T Dcome_to Gwith_more
  have Gdone_at:=rz (P:=l.prog) (w:=w) (base:=base) T Ddone_at Gwith_more
  have Gnext_shift:=l0 (P:=l.prog) (w:=w) (base:=base) T Dnext_shift
  have Gnext_shift_vL:=ip (P:=l.prog) (w:=w) (base:=base) T Dnext_shift
  have Gsettled:=sw (P:=l.prog) (w:=w) (base:=base) T Dsettled Gnext_shift Gwith_more
  have Gturn_behind:=j2 (P:=l.prog) (w:=w) (base:=base) T Dturn_behind
  have Gline_of:=sU (P:=l.prog) (w:=w) (base:=base) T Dline_of Gsent_to
  have Gmoved_on:=p5 (P:=l.prog) (w:=w) (base:=base) T Dmoved_on Gline_of Gcome_to Gturn_behind Gdone_at Gsettled
  have Gfigures_of:=lp (P:=l.prog) (w:=w) (base:=base) T Dfigures_of
  have Gmove_word:=mQ (P:=l.prog) (w:=w) (base:=base) T Dmove_word Gfigures_of
  have Grun_text:=pQ (P:=l.prog) (w:=w) (base:=base) T Drun_text Gmove_word
  have Gread_figures:=jg (P:=l.prog) (w:=w) (base:=base) T Dread_figures Gread_figure
  have Gread_move:=nG (P:=l.prog) (w:=w) (base:=base) T Dread_move Gread_figures Gis_move
  have Gread_run:=pH (P:=l.prog) (w:=w) (base:=base) T Dread_run Gread_move
  have Gcounts_behind:=ik (P:=l.prog) (w:=w) (base:=base) T Dcounts_behind
  have Gaskers_settled:=g9 (P:=l.prog) (w:=w) (base:=base) T Daskers_settled Gnext_shift_vL
  have Gaskers_behind:=iJ (P:=l.prog) (w:=w) (base:=base) T Daskers_behind Gaskers_settled
  have Gfirst_scene:=j5 (P:=l.prog) (w:=w) (base:=base) T Dfirst_scene Gfirst_stand
  have Gscene_behind:=jh (P:=l.prog) (w:=w) (base:=base) T Dscene_behind Gline_of Gmoved_on Gaskers_behind Gcounts_behind
  have GFloor___init__:=h8 (P:=l.prog) (w:=w) (base:=base) T DFloor___init__ Gfirst_scene
  have GFloor_go:=p3 (P:=l.prog) (w:=w) (base:=base) T DFloor_go Gscene_behind
  have GFloor_run_so_far:=fq (P:=l.prog) (w:=w) (base:=base) T DFloor_run_so_far
  have G_law_tape:=mn (P:=l.prog) (w:=w) (base:=base) T D_law_tape
  have G_law_draw:=mL (P:=l.prog) (w:=w) (base:=base) T D_law_draw
  have G_law_frac:=nC (P:=l.prog) (w:=w) (base:=base) T D_law_frac
  have G_law_all_lines:=gU (P:=l.prog) (w:=w) (base:=base) T D_law_all_lines
  have G_law_hall:=m5 (P:=l.prog) (w:=w) (base:=base) T D_law_hall G_law_draw G_law_frac G_law_all_lines
  have G_law_run:=p8 (P:=l.prog) (w:=w) (base:=base) T D_law_run G_law_draw
  have G_law_text:=m8 (P:=l.prog) (w:=w) (base:=base) T D_law_text
  have G_law_grown:=mi (P:=l.prog) (w:=w) (base:=base) T D_law_grown GFloor___init__ G_law_run G_law_draw GFloor_go GFloor_run_so_far
  exact JX T F G_law_tape G_law_hall G_law_run G_law_draw G_law_grown G_law_text Grun_text Gread_run
theorem walk {l:PySem.W.OpenLaw} {q:Program} {loose:List Str} {XP:(Str→Option Value)→Heap→Prop} {YP:World→Heap→Prop} {d:DefRec} {K:Params→PySem.W.Frag} (hq:PyProof.Rows.importsNone q = true) (hn:l.most = some 63) (hdf:d.params.defaults = [])
  (hY:∀ (w:World) (h:Heap),YP w h→(K w.params).In h)
  (F:∀ (w:World) (mg:Str→Option Value) (fa:Addr) (h:Heap),(K w.params).In h→h.Ns mainGlobals mg→mg d.name = some (.ref fa) →
   ∃ fd:FuncData,(∀ (s:Shared) (u:Value),BindsTo s fd ⟨[u],[]⟩ [("_law_script",u)])∧∀ base:Heap,(K w.params).In base→base.Ns mainGlobals mg→FnOk l.prog w (K w.params) mg base CX0 9 fa fd ["_law_script"] (spOf ⟨K w.params,w⟩ 1 wN)) :
  PySem.W.WalkO q loose XP YP l.row.toRowW d [] (fun f vs=>PySem.call f vs) :=
 L2.AG (n:=63) (k:=9) (x := "_law_script") (CX:=fun _=>CX0) (sp:=fun w=>spOf ⟨K w.params,w⟩ 1 wN) hq hn (by decide) hdf ⟨rfl,by decide,by decide,rfl⟩ hY F
  (fun w H a ns hl hO hS=>⟨[.imm (.list (ns.map .int))],[],fun r _=>r = .imm (.bool true),rfl,List.nodup_nil,.imm (qy hO hS) .nil,⟨ns,rfl,hl,rfl⟩,fun r outs v H' k _ rr _=>by cases k; exact fz (show Den ⟨K w.params,w⟩ H' (.bool true) v from rr)⟩) fun _ _ _ _ _ z=>z
end K
namespace PySem.W.Fast
def tw14333132787459075714:=0
def tw10215369818631212391:=0
def tw17477445247346318551:=0
def tw10483917731080217029:=0
def tw4511741090081211169:=0
def tw10713821704364217014:=0
def tw15408053287504794278:=0
def tw8769826117206764551:=0
def tw12257354623182233634:=0
def tw11685226173009873796:=0
def tw17176447063413844497:=0
def tw15037030893891011800:=0
def tw15949197997609273101:=0
def tw10042332708250141746:=0
def tw6030859491396029667:=0
def tw13801292352153732651:=0
def tw476139058110892180:=0
def tw4117046612444390823:=0
def tw10020157463040347825:=0
def tw17537250311734433406:=0
def tw4316218243081446023:=0
def tw5717761595235199479:=0
def tw864996647563944395:=0
def tw3061040163764645564:=0
def tw10739568812200070845:=0
def tw12554284954292466246:=0
def tw8505432538095449220:=0
def tw1322874106827001307:=0
def tw11005096522507051147:=0
def tw4899312531512324262:=0
def tw1618686538428913964:=0
def tw18070149762907888039:=0
def tw16590026643541803655:=0
def tw7353850245909241285:=0
def tw18034763210605189863:=0
def tw13368778035651006927:=0
def tw17450354971720208674:=0
def tw7471084175372715006:=0
def tw10389414206787719108:=0
def tw1515885786194036438:=0
def tw10253155097414585637:=0
def tw14271921050733262454:=0
def tw1450297474501239957:=0
def tw5700127941632565191:=0
def tw465663180909083045:=0
def tw2539948823057335545:=0
def tw17069661076381468352:=0
def tw7220007600184435852:=0
def tw13630144214405719697:=0
def tw5031846291839257413:=0
def tw3926848320657226642:=0
def tw5198722776536794042:=0
def tw1869652635638862606:=0
def tw2697978122921618357:=0
def tw12840322091527743825:=0
def tw17231842462300251142:=0
def tw1780567371308339961:=0
def tw10354430773339208575:=0
def tw1645085822753205039:=0
def tw12730700016688919408:=0
def tw8611475510127923589:=0
def tw4210915323400706382:=0
def tw7919985629252805614:=0
def tw13335100809110154701:=0
def tw16302845736033372220:=0
def tw756113210488238227:=0
def tw17322881969419418820:=0
def tw12325504607904219959:=0
def tw4484627444057860322:=0
def tw15456336366223115550:=0
def tw3252284898159251217:=0
def tw4545076905998381537:=0
def tw14673824095687731867:=0
def tw17040418747376740100:=0
def tw10087679020003076837:=0
def tw12938533025595936065:=0
def tw12319128976151047567:=0
def tw9633997746376178459:=0
def tw2660305770320489824:=0
def tw7607676234935650954:=0
def tw7445306166170487196:=0
def tw5190140301972063804:=0
def tw17538472018634856763:=0
def tw4401037417970391287:=0
def tw5553830540734909038:=0
def tw6790939037745362659:=0
def tw3702401118915560884:=0
def tw6754734846455063275:=0
def tw8918265468558655214:=0
def tw3151851924803486485:=0
def tw13463067528712458620:=0
def tw3673352184535778231:=0
def tw11142201020129182675:=0
def tw14324539563809864454:=0
def tw9963471779131683247:=0
def tw9995411214575969223:=0
def tw9936430275066548284:=0
def tw13340727429651124103:=0
def tw15041802895024100004:=0
def tw18437774173433178520:=0
def tw2576157676035458463:=0
def tw8316936901710148449:=0
def tw9277176683231946754:=0
def tw14207676026479477959:=0
def tw2185624132564906174:=0
def tw15977178185416378451:=0
def tw6512855469815929831:=0
def tw2899572730105195168:=0
def tw10323689342638946273:=0
def tw16965904247033534225:=0
def tw12415422489721709287:=0
def tw5987351139071371630:=0
def tw12385501599214254197:=0
def tw18299983472548624250:=0
def tw15431738370862719568:=0
def tw9372006872241898512:=0
def tw9998413791669017294:=0
def tw5450934607090451012:=0
def tw750569291351176230:=0
def tw16097628747611495385:=0
def tw5047193792808400595:=0
def tw18224312986250569663:=0
def tw9497090897437859688:=0
def tw12459634665327095890:=0
def tw8194151697751373916:=0
def tw15107593948253608137:=0
def tw18399189476156670830:=0
def tw14441444082755836221:=0
def tw17091244922203811157:=0
def tw15396653151603828077:=0
def tw3458258369751717372:=0
def tw7102023323205968874:=0
end PySem.W.Fast
open PySem PySem.W PyProof.Rows
local macro_rules | `(tactic| walk_at "dk") => `(tactic| (refine' L2.DefK.of ?a ?l ?c ?k; (case a => k_is); (case l => k_is); (case c => k_is); (case k => k_is)))
set_option maxRecDepth 100000 in
set_option maxHeartbeats 0 in
theorem PySem.Challenge.cw_shorterline_k61_runs_as_texts_holds : PySem.Challenge.rw_shorterline_k61_runs_as_texts.Holds := by
 w_on; o_law; k_head; (case hw=>w_witness2)
 k_fill
 refine K.walk (l:=PySem.Challenge.rw_shorterline_k61_runs_as_texts) ?hq rfl rfl (fun w h Y=>PySem.W.kIn_of Y) ?F
 case hq=>kernel_rfl
 case F =>
  intro w mg fa h KX G hmg
  refine' K.DE KX G hmg ?dis_whole ?dis_whole_within ?dis_tuple_of ?dis_figures ?dread_figure ?dis_less ?dis_line ?dplace_of_lines ?dfirst_shortest ?dwait_at ?dfirst_quickest ?dsent_to ?dfirst_stand ?dis_order ?dis_move ?dwith_more ?dcome_to ?ddone_at ?dnext_shift ?dsettled ?dturn_behind ?dline_of ?dmoved_on ?dfigures_of ?dmove_word ?drun_text ?dread_figures ?dread_move ?dread_run ?dcounts_behind ?daskers_settled ?daskers_behind ?dfirst_scene ?dscene_behind ?dFloor___init__ ?dFloor_go ?dFloor_run_so_far ?d_law_tape ?d_law_draw ?d_law_frac ?d_law_all_lines ?d_law_hall ?d_law_run ?d_law_text ?d_law_grown ?dlaw ?zlen ?zabs ?zrange ?zlist ?ztuple ?zint ?zsum ?zzip ?zmin ?zmax ?zenumerate ?zsorted ?zisinstance ?zbool ?zstr ?zrepr ?cFIGURES ?cVOID_RUN   ?ff_Floor_hall ?ff_Floor_rule ?ff_Floor_moves ?ff_Floor_scenes
  (case dis_whole=>walk_at "dk")
  (case dis_whole_within=>walk_at "dk")
  (case dis_tuple_of=>walk_at "dk")
  (case dis_figures=>walk_at "dk")
  (case dread_figure=>walk_at "dk")
  (case dis_less=>walk_at "dk")
  (case dis_line=>walk_at "dk")
  (case dplace_of_lines=>walk_at "dk")
  (case dfirst_shortest=>walk_at "dk")
  (case dwait_at=>walk_at "dk")
  (case dfirst_quickest=>walk_at "dk")
  (case dsent_to=>walk_at "dk")
  (case dfirst_stand=>walk_at "dk")
  (case dis_order=>walk_at "dk")
  (case dis_move=>walk_at "dk")
  (case dwith_more=>walk_at "dk")
  (case dcome_to=>walk_at "dk")
  (case ddone_at=>walk_at "dk")
  (case dnext_shift=>walk_at "dk")
  (case dsettled=>walk_at "dk")
  (case dturn_behind=>walk_at "dk")
  (case dline_of=>walk_at "dk")
  (case dmoved_on=>walk_at "dk")
  (case dfigures_of=>walk_at "dk")
  (case dmove_word=>walk_at "dk")
  (case drun_text=>walk_at "dk")
  (case dread_figures=>walk_at "dk")
  (case dread_move=>walk_at "dk")
  (case dread_run=>walk_at "dk")
  (case dcounts_behind=>walk_at "dk")
  (case daskers_settled=>walk_at "dk")
  (case daskers_behind=>walk_at "dk")
  (case dfirst_scene=>walk_at "dk")
  (case dscene_behind=>walk_at "dk")
  (case dFloor___init__=>(refine' L2.IniDK.of K.i5 ?xa ?xd ?xl ?xe ?xk ?xf ?xm ?xc; (case xa=>k_is); (case xd=>k_is); (case xl=>k_is); (case xe=>k_is); (case xk=>k_is); (case xf=>k_is); (case xm=>k_is); (case xc=>k_is)))
  (case dFloor_go=>(refine' L2.MthD.of K.t8 ?xa ?xb ?xc ?xd ?xe ?xf ?xl ?xg ?xk ?xn; (case xa=>k_is); (case xb=>k_is); (case xc=>k_is); (case xd=>k_is); (case xe=>k_is); (case xf=>k_is); (case xl=>k_is); (case xg=>k_is); (case xk=>k_is); (case xn=>k_is)))
  (case dFloor_run_so_far=>(refine' L2.MthD.of K.fV ?xa ?xb ?xc ?xd ?xe ?xf ?xl ?xg ?xk ?xn; (case xa=>k_is); (case xb=>k_is); (case xc=>k_is); (case xd=>k_is); (case xe=>k_is); (case xf=>k_is); (case xl=>k_is); (case xg=>k_is); (case xk=>k_is); (case xn=>k_is)))
  (case d_law_tape=>walk_at "dk")
  (case d_law_draw=>walk_at "dk")
  (case d_law_frac=>walk_at "dk")
  (case d_law_all_lines=>walk_at "dk")
  (case d_law_hall=>walk_at "dk")
  (case d_law_run=>walk_at "dk")
  (case d_law_text=>walk_at "dk")
  (case d_law_grown=>walk_at "dk")
  (case dlaw=>walk_at "dk")
  (case zlen=>k_is)
  (case zabs=>k_is)
  (case zrange=>k_is)
  (case zlist=>k_is)
  (case ztuple=>k_is)
  (case zint=>k_is)
  (case zsum=>k_is)
  (case zzip=>k_is)
  (case zmin=>k_is)
  (case zmax=>k_is)
  (case zenumerate=>k_is)
  (case zsorted=>k_is)
  (case zisinstance=>k_is)
  (case zbool=>k_is)
  (case zstr=>k_is)
  (case zrepr=>k_is)
  (case cFIGURES=>(refine' L2.ConK.str ?a; (case a=>k_is)))
  (case cVOID_RUN=>(refine' L2.ConK.str ?a; (case a=>k_is)))
  (case ff_Floor_hall=>(refine' L2.InsF.of ?xa ?xb ?xc ?xd ?xe ?xf; (case xa=>k_is); (case xb=>k_is); (case xc=>k_is); (case xd=>k_is); (case xe=>k_is); (case xf=>k_is)))
  (case ff_Floor_rule=>(refine' L2.InsF.of ?xa ?xb ?xc ?xd ?xe ?xf; (case xa=>k_is); (case xb=>k_is); (case xc=>k_is); (case xd=>k_is); (case xe=>k_is); (case xf=>k_is)))
  (case ff_Floor_moves=>(refine' L2.InsF.of ?xa ?xb ?xc ?xd ?xe ?xf; (case xa=>k_is); (case xb=>k_is); (case xc=>k_is); (case xd=>k_is); (case xe=>k_is); (case xf=>k_is)))
  (case ff_Floor_scenes=>(refine' L2.InsF.of ?xa ?xb ?xc ?xd ?xe ?xf; (case xa=>k_is); (case xb=>k_is); (case xc=>k_is); (case xd=>k_is); (case xe=>k_is); (case xf=>k_is)))