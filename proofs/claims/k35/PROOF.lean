import PyProof.Rows.All
import Wide.All
import OpenK.AllK
import Wide.FinOn
import Lean
import PyProof.EqAt
import PyProof.EqKinds
import PyProof.TupleCall
import KE.KRevIter
import PyProof.FactsAll.range
import PyProof.P3In
import PyProof.ZipIter
import PyProof.TupleIter
import PyProof.WalkInts
import PyProof.SeqI3
import PyProof.EnumFor
import PyProof.EnumMake
import PyProof.ListMulRoad
import PyProof.Rows.SortRev
import PyProof.SumWalkG
import PyProof.StrWalks
import PyProof.StrCalls2
import PyProof.StrLawsTight
import KE.KIntText
import PyProof.StrBlockG
import PyProof.Rows.StrItems
import PyProof.StrLawsRepr
import PyProof.SliceStr2
import PyProof.StrBlockI
import PyProof.Rows.IntBool
import PyProof.Rows.FStr
import PyProof.FString
import PyProof.FactsAll.tuple
import KE.KSortTup
import PyProof.AutoListH
import PyProof.StrOps2
import PyProof.ListStr
import PyProof.DictRoadsH
import PyProof.Rows.TupTab
import PyProof.P3Eq
import PyProof.StationsW
import PyProof.RulesAs
import OpenK.KOwn
import KE.KTryMore
import PyProof.NsDelKeeps
import PyProof.ExcArgsOwn
import PyProof.ExcInit
import PyProof.InstStoreFacts
import PyProof.ListRange
import PyProof.TupleOfStr
import PyProof.CollectIter
import PyProof.DictItems
import PyProof.DictWalks
import PySem.Challenge.RW_shorterline_k35_means_of_turns
set_option Elab.async false
set_option linter.all false
set_option maxRecDepth 100000
namespace L2
open PySem PySem.Spec PyProof.Rows
variable{us:List Value}{H:Hp}{a b:Addr}{o:HO}{h:Heap}{P:Program}{w:World}{g':Array GenState}{i j t':Nat}{ch fp:List Addr}{N ps:List Str}{x:Str}{M:Model}{A:Around}{E Q:Value->Shared->Prop}{v:V}{u:Value}{X:Cx}{e tg:Expr}{pos:Pos}{pins:List (Addr×Obj)}{σ:St}{K:PySem.W.Frag}{es:List Expr}{body:List Stmt}{f:Value->Value->Sem Value}{r:R2}{g:Int->Int->Int}{op:CmpOp}{mg:Str->Option Value}{scope:Scope}
abbrev Key:=Sum Int Str
def tF:Key->Value->Bool
 | .inl k,v=>Value.isInt k v
 | .inr x,v=>Value.isStrOf x v
def keyH(w:World):Key->Int
 | .inl k=>hashInt k
 | .inr x=>hashStr w x
theorem bt:∀{k:Key}{v:Value},tF k v=true->(∃i t,k=Sum.inl i/\v=Value.int i t)\/(∃x t,k=Sum.inr x/\v=Value.str x t)
 | .inl i,v,h=>by
  obtain⟨t,e⟩:=Value.isInt_shape (k:=i) (v:=v) h;exact .inl ⟨i,t,rfl,e⟩
 | .inr x,v,h=>by
  obtain⟨t,e⟩:=Value.isStrOf_shape (x:=x) (v:=v) h;exact .inr ⟨x,t,rfl,e⟩
theorem vi(i:Int)(t:Tok):tF (.inl i) (.int i t)=true:=by simp[tF,Value.isInt]
theorem xi(x:Str)(t:Tok):tF (.inr x) (.str x t)=true:=by simp[tF,Value.isStrOf]
theorem IB(a b:Int):decide ((Sum.inl a:Key)=Sum.inl b)=(a==b):=by
 by_cases e:a=b
 .subst e;simp
 .have h:¬(Sum.inl a:Key)=Sum.inl b:=fun q=>e (Sum.inl.inj q);rw[decide_eq_false h];exact(beq_eq_false_iff_ne.mpr e).symm
theorem IQ(a b:Str):decide ((Sum.inr a:Key)=Sum.inr b)=decide (a=b):=by
 by_cases e:a=b
 .subst e;simp
 .have h:¬(Sum.inr a:Key)=Sum.inr b:=fun q=>e (Sum.inr.inj q);rw[decide_eq_false h,decide_eq_false e]
theorem IU(a:Int)(b:Str):decide ((Sum.inl a:Key)=Sum.inr b)=false:=decide_eq_false (fun q=>nomatch q)
theorem Ij(a:Str)(b:Int):decide ((Sum.inr a:Key)=Sum.inl b)=false:=decide_eq_false (fun q=>nomatch q)
def cf(prog:Program)(w:World):PySem.KeyKind prog w Key where
 is:=tF
 hash:=keyH w
 inj:=fun v a b ha hb=>by
  rcases bt ha with⟨i,t,rfl,rfl⟩|⟨x,t,rfl,rfl⟩
  .rcases bt hb with⟨j,u,rfl,e⟩|⟨y,u,rfl,e⟩
   .injection e with e1 _;rw[e1]
   .exact nomatch e
  .rcases bt hb with⟨j,u,rfl,e⟩|⟨y,u,rfl,e⟩
   .exact nomatch e
   .injection e with e1 _;rw[e1]
 byValue:=fun k v h=>by
  rcases bt h with⟨i,t,rfl,rfl⟩|⟨x,t,rfl,rfl⟩<;>rfl
 pyHash:=fun hv h=>by
  rcases bt hv with⟨i,t,rfl,rfl⟩|⟨x,t,rfl,rfl⟩
  .exact wpAny_pyHash_int h
  .exact wpAny_pyHash_str h
 eqBool:=fun hu hv h=>by
  rcases bt hu with⟨i,t,rfl,rfl⟩|⟨x,t,rfl,rfl⟩
  .rcases bt hv with⟨j,u,rfl,rfl⟩|⟨y,u,rfl,rfl⟩
   .rw[IB]at h;exact wpAny_eqBool_int h
   .rw[IU]at h;exact SeqAt.EqAt.int_str i t y u _ _ _ _ h
  .rcases bt hv with⟨j,u,rfl,rfl⟩|⟨y,u,rfl,rfl⟩
   .rw[Ij]at h;exact SeqAt.EqAt.str_int x t j u _ _ _ _ h
   .rw[IQ]at h;exact wpAny_eqBool_str h
 «strs»:=fun k x t v h=>by
  rcases bt h with⟨i,u,rfl,e⟩|⟨y,u,rfl,e⟩
  .exact nomatch e
  .injection e with e1 _
   subst e1
   cases v<;>rfl
theorem p6(prog:Program)(w:World)(i:Int)(t:Tok):(cf prog w).is (.inl i) (.int i t)=true:=vi i t
theorem qh(prog:Program)(w:World)(x:Str)(t:Tok):(cf prog w).is (.inr x) (.str x t)=true:=xi x t
inductive V where
 |non|bl (b:Bool)|int (i:Int)|str (x:Str)|byt (b:Array UInt8)|flt (b:UInt64)|ref (a:Addr)|ty (n:String)
 deriving DecidableEq
def RelV:V->Value->Prop
 | .non,u=>u=Value.none
 | .bl b,u=>u=Value.bool b
 | .int i,u=>∃t,u=Value.int i t
 | .str x,u=>∃t,u=Value.str x t
 | .byt b,u=>∃t,u=Value.bytes b t
 | .flt b,u=>∃t,u=Value.float b t
 | .ref a,u=>u=Value.ref a
 | .ty n,u=>u=Value.type n
abbrev Vals:List V->List Value->Prop:=Paired RelV
theorem Vals.length{xs:List V}(r:Vals xs us):xs.length=us.length:=Paired.length r
theorem Vals.get:∀{xs:List V}{us:List Value}{i:Nat}{x:V},Vals xs us->xs[i]?=some x->∃u,us[i]?=some u/\RelV x u
 |_,_,_,_,.nil,e=>by simp at e
 |_,_,0,_,.cons r _,e=>by simp at e;subst e;exact⟨_,rfl,r⟩
 |_,_,i+1,x,.cons _ t,e=>by
  obtain⟨u,h1,h2⟩:=Vals.get (i:=i) (x:=x) t (by simpa using e);exact⟨u,by simpa using h1,h2⟩
theorem Vals.set{x:V}{u:Value}(r:RelV x u):∀{xs:List V}{us:List Value} (i:Nat),Vals xs us->Vals (xs.set i x) (us.set i u)
 |_,_,_,.nil=>.nil
 |_,_,0,.cons _ t=>.cons r t
 |_,_,i+1,.cons q t=>.cons q (Vals.set r i t)
theorem Vals.append:∀{xs ys:List V}{us ws:List Value},Vals xs us->Vals ys ws->Vals (xs++ys) (us++ws)
 |_,_,_,_,.nil,s=>s
 |_,_,_,_,.cons r t,s=>.cons r (Vals.append t s)
theorem Vals.take:∀{xs:List V}{us:List Value} (n:Nat),Vals xs us->Vals (xs.take n) (us.take n)
 |_,_,0,_=>.nil
 |_,_,_+1,.nil=>.nil
 |_,_,n+1,.cons r t=>.cons r (Vals.take n t)
theorem Vals.drop:∀{xs:List V}{us:List Value} (n:Nat),Vals xs us->Vals (xs.drop n) (us.drop n)
 |_,_,0,r=>r
 |_,_,_+1,.nil=>.nil
 |_,_,n+1,.cons _ t=>Vals.drop n t
def RelO:Option V->Option Value->Prop
 |some v,some u=>RelV v u
 |none,none=>True
 |_,_=>False
def KV{κ:Type}:List (κ×V)->List (κ×Value)->Prop:=Paired fun(p:κ×V) (q:κ×Value)=>p.1=q.1/\RelV p.2 q.2
def kV:Key->V
 | .inl i=>.int i
 | .inr x=>.str x
inductive HO where
 |lst (xs:List V)
 |tup (xs:List V)
 |dK (kvs:List (Key×V))|dT (kvs:List (List Key×V))
 |set (S:Int->Bool) (n:Nat)
 |ins (C dx:Addr) (fs:List (Str×V))
 |own (x:Addr)
 |xd (fs:List (Str×V))
 |met (f x:Addr)
 |rng (lo hi:Int)
 |frz (o:Obj) (u:HO)
 |tbl (ps:Array Value)
 |ext (φ:Heap->Prop)
abbrev Hp:=Addr->Option HO
def upd(H:Hp)(a:Addr)(o:HO):Hp:=fun b=>if b=a then some o else H b
theorem aC:upd H a o a=some o:=by unfold upd;rw[if_pos rfl]
theorem aw(h:b≠a):upd H a o b=H b:=by unfold upd;rw[if_neg h]
theorem pH{u:HO}(h:H a=some o)(h':H b=some u)(d:o≠u):a≠b:=by
 intro e;subst e;rw[h]at h';exact d (Option.some.inj h')
theorem aZ(h:H a=some o)(h':H b=none):a≠b:=by
 intro e;subst e;rw[h]at h';cases h'
def PlainT(h:Heap)(a:Addr)(items:Array Value):Prop:=∃o,h.get? a=some o/\o.cls = .type "tuple" /\ o.dict=none/\∃n,o.data = .seq items n
theorem PlainT.tup{items:Array Value}(x:PlainT h a items):IsTup h a items:=let ⟨o,e,c,_,d⟩:=x;⟨o,e,c,d⟩
theorem PlainT.new(h:Heap)(items:Array Value):PlainT (h.push {cls:=.type "tuple",data:=.seq items}) h.objs.size items:=⟨_,Heap.get?_push_size _ rfl,rfl,rfl,_,rfl⟩
section
variable (P:Program) (w:World)
def ObjOk(H:Hp)(h:Heap)(a:Addr):HO->Prop
 | .lst xs=>xs.length≤sizeLine/\∃(its:List Value) (n:Nat),Vals xs its/\h.get? a=some {cls:=.type "list",data:=.seq its.toArray n}
 | .tup xs=>xs.length≤sizeLine/\∃its:List Value,Vals xs its/\PlainT h a its.toArray
 | .dK kvs=>kvs.length≤sizeLine/\(a==sysModules)=false/\∃vs,KV kvs vs/\h.DictOf (cf P w) a vs
 | .dT kvs=>kvs.length≤sizeLine/\(a==sysModules)=false/\∃xs:List (List Key×Addr×Value),
   Paired (fun(p:List Key×V) (q:List Key×Addr×Value)=>p.1=q.1/\H q.2.1=some (.tup (p.1.map kV))/\RelV p.2 q.2.2) kvs xs /\
   ∃o es ep,h.get? a=some o/\o.ExactDict/\o.data = .dict es ep/\es.toList=xs.map (entryOfKey (tupleKind (cf P w)))/\(xs.map (·.1)).Nodup
 | .set S n=>h.SetOf (intKind P w) a S n
 | .ins C dx fs=>H dx=some (.own a)/\fs.length≤1000/\dx≠a/\h.get? a=some (PySem.W.instObj C dx) /\
   ∃mA,h.Ns1 dx mA/\(∀f,RelO (fs.lookup f) (mA f))/\PySem.Within mA (fs.map (·.1))
 | .own _=>∃o,h.get? a=some o
 | .xd fs=>∃mA,h.Ns1 a mA/\∀f,RelO (fs.lookup f) (mA f)
 | .rng lo hi=>∃t u v,h.get? a=some {cls:=.type "range",data:=.fields #[.int lo t,.int hi u,.int 1 v]}
 | .frz o u=>h.get? a=some o/\ObjOk H h a u
 | .tbl ps=>h.get? a=some {cls:=.none,data:=.fields ps}
 | .met f x=>h.get? a=some (PySem.W.methodObj (.ref f) (.ref x))
 | .ext φ=>φ h/\(∃o,h.get? a=some o)/\∀h1 h2:Heap,φ h1->(∀o,h1.get? a=some o->h2.get? a=some o)->φ h2
def HOk(H:Hp)(h:Heap):Prop:=∀a o,H a=some o->ObjOk P w H h a o
end
section
variable {P:Program}{w:World}{H H':Hp}{h h':Heap}{a:Addr}{o:HO}
theorem ObjOk.lt(x:ObjOk P w H h a o):a<h.objs.size:=by
 cases o with
 |lst xs=>obtain⟨_,_,_,_,e⟩:=x;exact Heap.lt_size e
 |tup xs=>obtain⟨_,_,_,p⟩:=x;exact p.tup.lt
 |dK kvs=>obtain⟨_,_,_,_,o,_,_,e,_⟩:=x;exact Heap.lt_size e
 |dT kvs=>obtain⟨_,_,_,_,o,_,_,e,_⟩:=x;exact Heap.lt_size e
 |set S n=>obtain⟨o,_,_,_,e,_⟩:=x;exact Heap.lt_size e
 |ins C dx fs=>obtain⟨_,_,_,e,_⟩:=x;exact Heap.lt_size e
 |own y=>obtain⟨_,e⟩:=x;exact Heap.lt_size e
 |xd fs=>obtain⟨_,⟨_,_,_,e,_⟩,_⟩:=x;exact Heap.lt_size e
 |rng lo hi=>obtain⟨_,_,_,e⟩:=x;exact Heap.lt_size e
 |frz ob u=>obtain⟨e,_⟩:=x;exact Heap.lt_size e
 |tbl ps=>exact Heap.lt_size (show h.get? a=some _ from x)
 |met f y=>exact Heap.lt_size (show h.get? a=some _ from x)
 |ext φ=>obtain⟨_,⟨_,e⟩,_⟩:=x;exact Heap.lt_size e
theorem Paired.mapP{α β:Type}{F G:α->β->Prop}:∀{l₁:List α}{l₂:List β},Paired F l₁ l₂->(∀a b,F a b->G a b)->Paired G l₁ l₂
 |_,_,.nil,_=>.nil
 |_,_,.cons r t,f=>.cons (f _ _ r) (Paired.mapP t f)
theorem ObjOk.stay(x:ObjOk P w H h a o)(k:∀b u,(b=a\/H b=some (.own a))->h.get? b=some u->h'.get? b=some u)
  (ho:∀b,H b=some (.own a)->H' b=some (.own a)) (ht:∀b xs,H b=some (.tup xs)->H' b=some (.tup xs)):ObjOk P w H' h' a o:=by
 induction o with
 |lst xs=>obtain⟨z,its,n,r,e⟩:=x;exact⟨z,its,n,r,k _ _ (.inl rfl) e⟩
 |tup xs=>obtain⟨z,its,r,ob,e,c⟩:=x;exact⟨z,its,r,ob,k _ _ (.inl rfl) e,c⟩
 |dK kvs=>obtain⟨z,y,vs,r,ob,es,ep,e,c⟩:=x;exact⟨z,y,vs,r,ob,es,ep,k _ _ (.inl rfl) e,c⟩
 |dT kvs =>
  obtain⟨z,y,xs,r,ob,es,ep,e,c⟩:=x;exact⟨z,y,xs,Paired.mapP r fun p q z=>⟨z.1,ht _ _ z.2.1,z.2.2⟩,ob,es,ep,k _ _ (.inl rfl) e,c⟩
 |set S n=>obtain⟨ob,es,ep,t,e,c⟩:=x;exact⟨ob,es,ep,t,k _ _ (.inl rfl) e,c⟩
 |ins C dx fs =>
  obtain⟨d,z,ne,e,mA,⟨od,es,ep,e2,c⟩,r⟩:=x;exact⟨ho _ d,z,ne,k _ _ (.inl rfl) e,mA,⟨od,es,ep,k _ _ (.inr d) e2,c⟩,r⟩
 |own y=>obtain⟨ob,e⟩:=x;exact⟨ob,k _ _ (.inl rfl) e⟩
 |xd fs=>obtain⟨mA,⟨od,es,ep,e,c⟩,r⟩:=x;exact⟨mA,⟨od,es,ep,k _ _ (.inl rfl) e,c⟩,r⟩
 |rng lo hi=>obtain⟨t,u,v,e⟩:=x;exact⟨t,u,v,k _ _ (.inl rfl) e⟩
 |frz ob u ih=>obtain⟨e,q⟩:=x;exact⟨k _ _ (.inl rfl) e,ih q⟩
 |tbl ps =>
  have e:h.get? a=some {cls:=.none,data:=.fields ps}:=x;show h'.get? a=some {cls:=.none,data:=.fields ps};exact k a _ (.inl rfl) e
 |met f y =>
  have e:h.get? a=some (PySem.W.methodObj (.ref f) (.ref y)):=x;show h'.get? a=some (PySem.W.methodObj (.ref f) (.ref y));exact k a _ (.inl rfl) e
 |ext φ=>obtain⟨p,⟨o,e⟩,st⟩:=x;exact⟨st _ _ p fun o q=>k _ _ (.inl rfl) q,⟨o,k _ _ (.inl rfl) e⟩,st⟩
theorem HOk.lt(x:HOk P w H h)(e:H a=some o):a<h.objs.size:=(x a o e).lt
theorem HOk.fresh(x:HOk P w H h)(e:h.objs.size≤a):H a=none:=by
 cases q:H a with
 |none=>rfl
 |some u=>exact absurd (Nat.lt_of_lt_of_le (x.lt q) e) (Nat.lt_irrefl _)
theorem HOk.kept(x:HOk P w H h)(k:∀b u,h.get? b=some u->h'.get? b=some u):HOk P w H h':=fun a o e =>
 (x a o e).stay (fun b u _ q=>k b u q) (fun _ q=>q) fun _ _ q=>q
theorem HOk.laid(x:HOk P w H h)(k:∀b u,h.get? b=some u->h'.get? b=some u)(hp:h.objs.size≤a)(new:ObjOk P w (upd H a o) h' a o):HOk P w (upd H a o) h':=fun b u e=>by
 have hn:=x.fresh hp
 by_cases hb:b=a
 .subst hb;rw[aC]at e;cases e;exact new
 .rw[aw hb]at e;exact(x b u e).stay (fun c v _ q=>k c v q) (fun c q=>by rw[aw (aZ q hn)];exact q) fun c xs q=>by rw[aw (aZ q hn)];exact q
end
def Rd(H:Hp)(a:Addr)(u:HO):Prop:=H a=some u\/∃o,H a=some (.frz o u)
theorem Rd.ok{u:HO}(r:Rd H a u)(x:HOk P w H h):ObjOk P w H h a u:=by
 rcases r with r|⟨o,r⟩
 .exact x a u r
 .obtain⟨_,q⟩:=x a _ r;exact q
def Mut:Option HO->Prop
 |some (.lst _)=>True
 |some (.dK _)=>True
 |some (.dT _)=>True
 |some (.set _ _)=>True
 |some (.ins _ _ _)=>True
 |some (.ext _)=>True
 |_=>False
section
variable {P:Program}{w:World}{H:Hp}{h h':Heap}{x e:Addr}{o':HO}
theorem HOk.write(ok:HOk P w H h)(mu:Mut (H x))(he:e=x\/H e=some (.own x))(k:∀b u,b≠e->h.get? b=some u->h'.get? b=some u)(heo:∃u,h'.get? e=some u)
  (new:ObjOk P w (upd H x o') h' x o'):HOk P w (upd H x o') h':=fun b u q=>by
 have nown:∀c y,H c=some (.own y)->c≠x:=fun c y r z=>by subst z;rw[r]at mu;exact mu
 have ntup:∀c xs,H c=some (.tup xs)->c≠x:=fun c xs r z=>by subst z;rw[r]at mu;exact mu
 by_cases hb:b=x
 .subst hb;rw[aC]at q;cases q;exact new
 .rw[aw hb]at q
  by_cases hbe:b=e
  .have q':H b=some (.own x):=by
    rcases he with z|z
    .exact absurd (hbe.trans z) hb
    .rw[hbe];exact z
   rw[q]at q';cases q';obtain⟨v,hv⟩:=heo;exact⟨v,by rw[hbe];exact hv⟩
  .refine(ok b u q).stay (fun c v hc r=>k c v ?_ r) (fun c r=>by rw[aw (nown c b r)];exact r) fun c xs r=>by rw[aw (ntup c xs r)];exact r
   rcases hc with rfl|hc
   .exact hbe
   .rintro rfl;rcases he with z|z
    .exact nown c b hc z
    .rw[hc]at z;cases z;exact hb rfl
end
structure Un(fs ex:List Addr)(H H':Hp)(h h':Heap):Prop where
 keep:∀b o,h.get? b=some o->H b=none->b∉fs->b∉ex->h'.get? b=some o
 slot:∀b o,h.get? b=some o->H b=none->b∈fs->b∉ex->∃sl,h'.get? b=some {o with slots:=sl}
 free:∀b o,h.get? b=some o->H b=none->b∉ex->H' b=none
 there:∀b o,h.get? b=some o->b∉ex->∃o',h'.get? b=some o'
 tups:∀b xs,H b=some (.tup xs)->H' b=some (.tup xs)
 frzs:∀b o u,H b=some (.frz o u)->H' b=some (.frz o u)
 tbls:∀b ps,H b=some (.tbl ps)->∃more,H' b=some (.tbl (ps++more))
section
variable {fs fs' ex ex':List Addr}{H H1 H2:Hp}{h h1 h2 h':Heap}{a x e:Addr}{o:HO}
theorem Un.any(u:Un fs ex H H1 h h1){ob:Obj}(q:h.get? b=some ob)(n:H b=none)(hx:b∉ex):∃sl,h1.get? b=some {ob with slots:=sl}:=by
 by_cases hb:b∈fs
 .exact u.slot b ob q n hb hx
 .exact⟨ob.slots,u.keep b ob q n hb hx⟩
theorem Un.kept(k:∀b u,h.get? b=some u->h'.get? b=some u):Un fs ex H H h h' :=
 ⟨fun b ob q _ _ _=>k b ob q,fun b ob q _ _ _=>⟨ob.slots,k b ob q⟩,fun _ _ _ n _=>n,fun b ob q _=>⟨ob,k b ob q⟩,fun _ _ q=>q,fun _ _ _ q=>q,fun _ ps q=>⟨#[],by rw[q];simp⟩⟩
theorem Un.refl:Un fs ex H H h h:=Un.kept fun _ _ q=>q
theorem Un.laid(k:∀b u,h.get? b=some u->h'.get? b=some u)(hp:h.objs.size≤a)(hn:H a=none):Un fs ex H (upd H a o) h h' where
 keep:=fun b u q _ _ _=>k b u q
 slot:=fun b u q _ _ _=>⟨u.slots,k b u q⟩
 free:=fun b u q n _=>by rw[aw (Nat.ne_of_lt (Nat.lt_of_lt_of_le (Heap.lt_size q) hp))];exact n
 there:=fun b u q _=>⟨u,k b u q⟩
 tups:=fun b xs q=>by rw[aw (aZ q hn)];exact q
 frzs:=fun b u xs q=>by rw[aw (aZ q hn)];exact q
 tbls:=fun b ps q=>⟨#[],by rw[aw (aZ q hn),q];simp⟩
theorem Un.write(mu:Mut (H x))(he:e=x\/H e=some (.own x))(k:∀b u,b≠e->h.get? b=some u->h'.get? b=some u)(heo:∃u,h'.get? e=some u):Un fs ex H (upd H x o) h h':=by
 have hx:∀b,H b=none->b≠x:=fun b n z=>by subst z;rw[n]at mu;exact mu
 have hb:∀b,H b=none->b≠e:=fun b n z=>by
  subst z;rcases he with r|r
  .exact hx b n r
  .rw[n]at r;cases r
 have hm:∀b u,H b=some u->¬Mut (some u)->b≠x:=fun b u q nm z=>by subst z;rw[q]at mu;exact nm mu
 refine⟨fun b u q n _ _=>k b u (hb b n) q,fun b u q n _ _=>⟨u.slots,k b u (hb b n) q⟩,fun b u q n _=>by rw[aw (hx b n)];exact n,fun b u q _=>?_,
  fun b xs q=>by rw[aw (hm b _ q fun z=>z)];exact q,fun b u xs q=>by rw[aw (hm b _ q fun z=>z)];exact q,fun b ps q=>⟨#[],by rw[aw (hm b _ q fun z=>z),q];simp⟩⟩
 by_cases hbe:b=e
 .subst hbe;exact heo
 .exact⟨u,k b u hbe q⟩
end
def trk(h:Heap)(H:Hp):List Addr:=(List.range h.objs.size).filter fun a=>(H a).isSome
def hidT(h:Heap)(H:Hp):Heap:=PySem.W.hideAll h (trk h H)
theorem ux(h:Heap)(H:Hp):(hidT h H).objs.size=h.objs.size:=PySem.W.hideAll_size _ _
theorem zh{o:Obj}(e:h.get? b=some o)(n:H b=none):(hidT h H).get? b=some o :=
 PySem.W.hideAll_get _ e fun hm=>by
  have q:(H b).isSome=true:=(List.mem_filter.mp hm).2;rw[n]at q;simp at q
theorem CU{o:Obj}(e:(hidT h H).get? b=some o):h.get? b=some o/\H b=none:=by
 have e':h.get? b=some o:=PySem.W.of_hideAll (trk h H) e;refine⟨e',?_⟩
 cases q:H b with
 |none=>rfl
 |some x =>
  have hm:b∈trk h H:=List.mem_filter.mpr ⟨List.mem_range.mpr (Heap.lt_size e'),by simp[q]⟩;have z:(hidT h H).get? b=none:=PySem.W.hideAll_none (trk h H) hm;rw[z]at e;cases e
structure Mod(K:PySem.W.Frag)(mg:Str->Option Value)(base:Heap):Prop where
 kin:K.In base
 glob:base.Ns mainGlobals mg
 blt:∃mb,base.Ns builtinsNs mb/\∀x:Str,x ≠ "__name__" -> mb x=bootBuiltins x
 nolimit:base.NoLimit
 sys:∃m,base.Ns sysModules m
inductive Ao where
 |L (a:Addr)|T (t:List (List Nat×Addr))
structure EB where
 np:Nat
 be:List Ao
 H:Hp
structure Cx where
 prog:Program
 w:World
 K:PySem.W.Frag
 mg:Str->Option Value
 base:Heap
 A:Around
 N:List Str
 s₀:Shared
 H₀:Hp
 env:Env
 outer:List Env
 stack:List Env
 ex:List Addr
 fn:Str->Bool
 calm:Bool
 pn:List (Addr×Obj)
 xe:Value->Shared->Prop
 eb:EB:=⟨0,[],fun _=>none⟩
def frs(l:List Env):List Addr:=l.filterMap (·.frame)
abbrev Cx.fs(X:Cx):List Addr:=frs X.outer
def Vis(sc:Scope)(x:Str):Prop:=sc.names.lookup x=some .local\/sc.names.lookup x=some .cell\/sc.names.lookup x=some .free
def Loc(sc:Scope)(x:Str):Prop:=sc.names.lookup x=some .local\/sc.names.lookup x=some .cell
def Look(env:Env)(h:Heap)(m:Str->Option Value)(x:Str)(u:Value):Prop :=
 (env.kindOf x=some .local/\m x=some u)\/((env.kindOf x=some .cell\/env.kindOf x=some .free)/\∃c,env.cells.lookup x=some c/\h.IsCell c (some u))
structure Cx.Ok(X:Cx):Prop where
 mod:Mod X.K X.mg X.base
 kind:X.env.scope.kind = .function
 glob:X.env.globals=mainGlobals
 blt:X.env.builtins=builtinsNs
 above:X.s₀.heap.objs.size≤X.env.locals
 inj:∀x y c,X.env.cells.lookup x=some c->X.env.cells.lookup y=some c->x=y
 has:∀x,(X.env.kindOf x=some .cell\/X.env.kindOf x=some .free)->∃c,X.env.cells.lookup x=some c
 cab:∀x c,X.fn x=true->X.env.cells.lookup x=some c->X.s₀.heap.objs.size≤c
 hd:X.calm=true->X.A.handled=none
 frames:X.A.frames=some X.stack
 stk:X.stack=X.outer\/(X.stack=X.env::X.outer/\X.env.frame=some X.env.locals)
 exf:∀b∈X.ex,b≠X.env.locals/\∀x c,X.env.cells.lookup x=some c->c≠b
 bs:∀b o,X.base.get? b=some o->X.s₀.heap.get? b=some o/\X.H₀ b=none
 bsz:X.base.objs.size≤X.s₀.heap.objs.size
 noex:∀b o,X.base.get? b=some o->b∉X.ex
 exfs:∀b∈X.ex,b∉X.fs
 funs:X.s₀.heap.FunFrames X.base X.outer
 frf:∀b∈X.fs,X.H₀ b=none
structure Inv(X:Cx)(pins:List (Addr×Obj))(σ:List (Option V))(H:Hp)(s:Shared):Prop where
 ok:X.Ok
 os:s.os=X.s₀.os
 bare:AllBare s.gens
 base:Un X.fs X.ex X.H₀ H X.s₀.heap s.heap
 loc:∃m,s.heap.Ns X.env.locals m/\∀(i:Nat) (x:Str) (v:V),X.N[i]?=some x->σ[i]?=some (some v)->Vis X.env.scope x->∃u,RelV v u/\Look X.env s.heap m x u
 cell:∀x c,X.env.cells.lookup x=some c->∃v,s.heap.IsCell c v
 free:H X.env.locals=none
 freeC:∀x c,X.env.cells.lookup x=some c->H c=none
 pin:∀p∈X.pn++pins,s.heap.get? p.1=some p.2/\H p.1=none/\p.1≠X.env.locals/\p.1∉X.fs/\∀v,p.2.data≠.cell v
 hok:HOk X.prog X.w H s.heap
 len:σ.length=X.N.length
section
variable {X:Cx}{pins:List (Addr×Obj)}{σ:List (Option V)}{H H':Hp}{s:Shared}{h':Heap}
theorem Cx.Ok.nofr(ok:X.Ok){o:Obj}(e:X.base.get? b=some o):b∉X.fs:=fun hb=>by
 have:=(ok.funs.mem hb).1;rw[e]at this;cases this
theorem Inv.bs(I:Inv X pins σ H s):∀b o,X.base.get? b=some o->s.heap.get? b=some o/\H b=none:=fun b o e =>
 ⟨I.base.keep b o (I.ok.bs b o e).1 (I.ok.bs b o e).2 (I.ok.nofr e) (I.ok.noex b o e),I.base.free b o (I.ok.bs b o e).1 (I.ok.bs b o e).2 (I.ok.noex b o e)⟩
theorem Inv.bk(I:Inv X pins σ H s):∀b o,X.base.get? b=some o->s.heap.get? b=some o:=fun b o e=>(I.bs b o e).1
theorem Inv.mod(I:Inv X pins σ H s):Mod X.K X.mg X.base:=I.ok.mod
theorem Inv.kIn(I:Inv X pins σ H s):X.K.In s.heap:=I.ok.mod.kin.keeps I.bk
theorem Inv.lt(I:Inv X pins σ H s):X.env.locals<s.heap.objs.size:=let ⟨_,hn,_⟩:=I.loc;hn.lt
theorem Inv.sz(I:Inv X pins σ H s):X.s₀.heap.objs.size≤s.heap.objs.size:=Nat.le_trans I.ok.above (Nat.le_of_lt I.lt)
theorem Inv.nofs(I:Inv X pins σ H s)(h:s.heap.objs.size≤a):a∉X.fs:=fun hb=>by
 obtain⟨_,o,ho,_⟩:=I.ok.funs.mem hb;exact absurd (Nat.lt_of_lt_of_le (Heap.lt_size ho) (Nat.le_trans I.sz h)) (Nat.lt_irrefl _)
theorem Inv.cne(I:Inv X pins σ H s):∀x c,X.env.cells.lookup x=some c->c≠X.env.locals:=fun x c e z=>by
 obtain⟨v,o,ho,hd⟩:=I.cell x c e;obtain⟨m,⟨o',es,ep,ho',hd',_⟩,_⟩:=I.loc;rw[z,ho']at ho;cases ho;rw[hd']at hd;cases hd
theorem Inv.funs(I:Inv X pins σ H s):s.heap.FunFrames X.base X.outer:=by
 have all:∀(l:List Env),(∀b∈frs l,b∈X.fs)->X.s₀.heap.FunFrames X.base l->s.heap.FunFrames X.base l:=by
  intro l
  induction l with
  |nil=>intro _ _;trivial
  |cons env r ih =>
   intro hs hl;obtain⟨hk,⟨L,o,hf,hn,ho,hd⟩,hr⟩:=hl;have hL:L∈X.fs:=hs L (by unfold frs;rw[List.filterMap_cons,hf];exact List.mem_cons_self);obtain⟨sl,e⟩:=I.base.slot L o ho (I.ok.frf L hL) hL fun z=>I.ok.exfs L z hL;exact⟨hk,⟨L,_,hf,hn,e,hd⟩,ih (fun b hb=>hs b (by unfold frs;rw[List.filterMap_cons,hf];exact List.mem_cons_of_mem _ hb)) hr⟩
 exact all X.outer (fun _ hb=>hb) I.ok.funs
theorem Inv.stack(I:Inv X pins σ H s):s.heap.FunFrames X.base X.stack:=by
 rcases I.ok.stk with e|⟨e,hf⟩
 .rw[e];exact I.funs
 .rw[e];obtain⟨m,hn,_⟩:=I.loc;refine .cons (by rw[I.ok.kind];decide) hf hn ?_ I.funs;exact Heap.get?_none_of_le (Nat.le_trans I.ok.bsz I.ok.above)
theorem Inv.stkSub(I:Inv X pins σ H s):∀b∈frs X.stack,b∈X.env.locals::X.fs:=fun b hb=>by
 rcases I.ok.stk with e|⟨e,hf⟩
 .rw[e]at hb;exact List.mem_cons_of_mem _ hb
 .rw[e]at hb;unfold frs at hb;rw[List.filterMap_cons,hf]at hb;exact hb
theorem Inv.stkFree(I:Inv X pins σ H s):∀b∈frs X.stack,H b=none:=fun b hb=>by
 rcases List.mem_cons.mp (I.stkSub b hb)with e|hb
 .rw[e];exact I.free
 .obtain⟨_,o,ho,_⟩:=I.ok.funs.mem hb;exact I.base.free b o ho (I.ok.frf b hb) fun z=>I.ok.exfs b z hb
theorem Inv.step{d':Drawn}(I:Inv X pins σ H s)
  (hch:∀b∈ch,(b∈X.ex\/X.s₀.heap.objs.size≤b)/\b≠X.env.locals/\(∀x c,X.env.cells.lookup x=some c->c≠b)/\∀p∈X.pn++pins,p.1≠b)
  (keep:∀b o,b≠X.env.locals->b∉X.fs->b∉ch->s.heap.get? b=some o->H b=none->h'.get? b=some o)
  (slot:∀b o,b≠X.env.locals->b∈X.fs->b∉ch->s.heap.get? b=some o->H b=none->∃sl,h'.get? b=some {o with slots:=sl}) (free:∀b o,b∉ch->s.heap.get? b=some o->H b=none->H' b=none)
  (there:∀b o,b∉ch->s.heap.get? b=some o->∃o',h'.get? b=some o')
  (tups:∀b xs,H b=some (.tup xs)->H' b=some (.tup xs)) (frzs:∀b o u,H b=some (.frz o u)->H' b=some (.frz o u)) (tbls:∀b ps,H b=some (.tbl ps)->∃more,H' b=some (.tbl (ps++more)))
  (ns:∀m,s.heap.Ns X.env.locals m->h'.Ns X.env.locals m) (hok:HOk X.prog X.w H' h') (hg:AllBare g') :
  Inv X pins σ H' {s with heap:=h',gens:=g',drawn:=d',toks:=t' }:=by
 have neL:∀b o,X.s₀.heap.get? b=some o->b≠X.env.locals:=fun b o e=>Nat.ne_of_lt (Nat.lt_of_lt_of_le (Heap.lt_size e) I.ok.above);have neC:∀b o,X.s₀.heap.get? b=some o->b∉X.ex->b∉ch:=fun b o e hx hb=>by
  rcases (hch b hb).1 with z|z
  .exact hx z
  .exact absurd (Nat.lt_of_lt_of_le (Heap.lt_size e) z) (Nat.lt_irrefl _)
 have cellK:∀x c,X.env.cells.lookup x=some c->∀v,s.heap.IsCell c v->h'.IsCell c v:=fun x c e v ⟨o,ho,hd⟩=>by
  have nch:c∉ch:=fun z=>(hch c z).2.2.1 x c e rfl
  by_cases hc:c∈X.fs
  .obtain⟨sl,q⟩:=slot c o (I.cne x c e) hc nch ho (I.freeC x c e);exact⟨_,q,hd⟩
  .exact⟨o,keep c o (I.cne x c e) hc nch ho (I.freeC x c e),hd⟩
 refine⟨I.ok,I.os,hg,⟨fun b o e n hb hx=>?_,fun b o e n hb hx=>?_,fun b o e n hx=>?_,fun b o e hx=>?_,fun b xs e=>tups b xs (I.base.tups b xs e),fun b o xs e=>frzs b o xs (I.base.frzs b o xs e),fun b ps e=>?_⟩,?_,fun x c e=>?_,?_,fun x c e=>?_,fun p hp=>?_,hok,I.len⟩
 .exact keep b o (neL b o e) hb (neC b o e hx) (I.base.keep b o e n hb hx) (I.base.free b o e n hx)
 .obtain⟨sl,e1⟩:=I.base.slot b o e n hb hx;obtain⟨sl',e2⟩:=slot b _ (neL b o e) hb (neC b o e hx) e1 (I.base.free b o e n hx);exact⟨sl',e2⟩
 .obtain⟨o',e1⟩:=I.base.there b o e hx;exact free b o' (neC b o e hx) e1 (I.base.free b o e n hx)
 .obtain⟨o',e1⟩:=I.base.there b o e hx;exact there b o' (neC b o e hx) e1
 .obtain⟨m1,e1⟩:=I.base.tbls b ps e;obtain⟨m2,e2⟩:=tbls b _ e1;exact⟨m1++m2,by rw[e2,Array.append_assoc]⟩
 .obtain⟨m,hn,hl⟩:=I.loc;refine⟨m,ns m hn,fun i x v e1 e2 e3=>?_⟩;obtain⟨u,r,l⟩:=hl i x v e1 e2 e3;refine⟨u,r,?_⟩;rcases l with l|⟨k,c,e,z⟩
  .exact .inl l
  .exact .inr ⟨k,c,e,cellK x c e _ z⟩
 .obtain⟨v,z⟩:=I.cell x c e;exact⟨v,cellK x c e v z⟩
 .obtain⟨m,⟨o,_,_,ho,_⟩,_⟩:=I.loc;exact free _ o (fun z=>(hch _ z).2.1 rfl) ho I.free
 .obtain⟨v,o,ho,hd⟩:=I.cell x c e;exact free c o (fun z=>(hch c z).2.2.1 x c e rfl) ho (I.freeC x c e)
 .obtain⟨e,n,ne,nf,d⟩:=I.pin p hp;have nch:p.1∉ch:=fun z=>(hch p.1 z).2.2.2 p hp rfl;exact⟨keep p.1 p.2 ne nf nch e n,free p.1 p.2 nch e n,ne,nf,d⟩
theorem Inv.un(I:Inv X pins σ H s)(u:Un X.fs [] H H' s.heap h')(hok:HOk X.prog X.w H' h'):Inv X pins σ H' {s with heap:=h',toks:=t' }:=by
 obtain⟨m,⟨o,es,ep,ho,r⟩,_⟩:=id I.loc;obtain⟨sl,hL⟩:=u.any ho I.free (by simp);exact I.step (g':=s.gens) (d':=s.drawn) (ch:=[]) (fun _ z=>nomatch z) (fun b o _ hb _ e n=>u.keep b o e n hb (by simp)) (fun b o _ hb _ e n=>u.slot b o e n hb (by simp)) (fun b o _ e n=>u.free b o e n (by simp)) (fun b o _ e=>u.there b o e (by simp)) u.tups u.frzs u.tbls (fun m' hm=>by
  obtain⟨o',es',ep',ho',r'⟩:=hm;rw[ho]at ho';cases ho';exact⟨_,es',ep',hL,r'⟩) hok I.bare
theorem Inv.call{d':Drawn}(I:Inv X pins σ H s)(u:Un (frs X.stack) ch H H' s.heap h')(hok:HOk X.prog X.w H' h')(hg:AllBare g')
  (hch:∀b∈ch,(b∈X.ex\/X.s₀.heap.objs.size≤b)/\b≠X.env.locals/\(∀x c,X.env.cells.lookup x=some c->c≠b)/\∀p∈X.pn++pins,p.1≠b) :
  Inv X pins σ H' {s with heap:=h',gens:=g',drawn:=d',toks:=t' }:=by
 obtain⟨m,⟨o,es,ep,ho,r⟩,_⟩:=id I.loc;obtain⟨sl,hL⟩:=u.any ho I.free fun z=>(hch _ z).2.1 rfl;exact I.step (ch:=ch) hch (fun b o hL hb hc e n=>u.keep b o e n (fun z=>(List.mem_cons.mp (I.stkSub b z)).elim hL hb) hc) (fun b o _ _ hc e n=>u.any e n hc) (fun b o hc e n=>u.free b o e n hc) (fun b o hc e=>u.there b o e hc) u.tups u.frzs u.tbls (fun m' hm=>by
  obtain⟨o',es',ep',ho',r'⟩:=hm;rw[ho]at ho';cases ho';exact⟨_,es',ep',hL,r'⟩) hok hg
theorem Inv.turned{it:Addr}(I:Inv X pins σ H s)(k:∀b o,b≠it->s.heap.get? b=some o->h'.get? b=some o)(hn:H it=none)(hL:it≠X.env.locals)
  (h1:it∈X.ex\/X.s₀.heap.objs.size≤it) (h2:∀x c,X.env.cells.lookup x=some c->c≠it) (h3:∀p∈X.pn++pins,p.1≠it):Inv X pins σ H {s with heap:=h',toks:=t' }:=by
 have nit:∀b u,H b=some u->b≠it:=fun b u e z=>by rw[z,hn]at e;cases e
 refine I.step (g':=s.gens) (d':=s.drawn) (ch:=[it]) (fun b hb=>?_) (fun b o _ _ hc e _=>k b o (fun z=>hc (by simp[z])) e) (fun b o _ _ hc e _=>⟨o.slots,k b o (fun z=>hc (by simp[z])) e⟩) (fun _ _ _ _ n=>n)
  (fun b o hc e=>⟨o,k b o (fun z=>hc (by simp[z])) e⟩) (fun _ _ e=>e) (fun _ _ _ e=>e) (fun b ps e=>⟨#[],by rw[e];simp⟩) (fun m hm=>?_) (fun b u e=>?_) I.bare
 .have e:b=it:=by simpa using hb
  subst e;exact⟨h1,hL,h2,h3⟩
 .obtain⟨o,es,ep,ho,r⟩:=hm;exact⟨o,es,ep,k _ o (Ne.symm hL) ho,r⟩
 .refine(I.hok b u e).stay (fun c v hc q=>k c v ?_ q) (fun _ q=>q) fun _ _ q=>q;rcases hc with z|z
  .rw[z];exact nit b u e
  .exact nit c _ z
theorem Inv.tok(I:Inv X pins σ H s)(t:Nat):Inv X pins σ H {s with toks:=t}:=I.un (h':=s.heap) (t':=t) Un.refl I.hok
theorem Inv.kept(I:Inv X pins σ H s)(k:∀b u,s.heap.get? b=some u->h'.get? b=some u):Inv X pins σ H {s with heap:=h',toks:=t' }:=I.un (Un.kept k) (I.hok.kept k)
theorem Inv.laid(I:Inv X pins σ H s)(k:∀b u,s.heap.get? b=some u->h'.get? b=some u)(hp:s.heap.objs.size≤a)(new:ObjOk X.prog X.w (upd H a o) h' a o) :
  Inv X pins σ (upd H a o) {s with heap:=h',toks:=t' }:=I.un (Un.laid k hp (I.hok.fresh hp)) (I.hok.laid k hp new)
theorem Inv.write{x e:Addr}(I:Inv X pins σ H s)(mu:Mut (H x))(he:e=x\/H e=some (.own x))(k:∀b u,b≠e->s.heap.get? b=some u->h'.get? b=some u)(heo:∃u,h'.get? e=some u)
  (new:ObjOk X.prog X.w (upd H x o) h' x o):Inv X pins σ (upd H x o) {s with heap:=h',toks:=t' }:=I.un (Un.write mu he k heo) (I.hok.write mu he k heo new)
theorem Inv.pins_of{pins':List (Addr×Obj)}(I:Inv X pins σ H s)(h:∀p∈pins',s.heap.get? p.1=some p.2/\H p.1=none/\p.1≠X.env.locals/\p.1∉X.fs/\∀v,p.2.data≠.cell v):Inv X pins' σ H s :=
 ⟨I.ok,I.os,I.bare,I.base,I.loc,I.cell,I.free,I.freeC,fun p hp=>(List.mem_append.mp hp).elim (fun z=>I.pin p (List.mem_append_left _ z)) (h p),I.hok,I.len⟩
theorem rl(hN:N.Nodup)(a:N[i]?=some x)(b:N[j]?=some x):i=j:=by
 obtain⟨h1,e1⟩:=List.getElem?_eq_some_iff.mp a;obtain⟨h2,e2⟩:=List.getElem?_eq_some_iff.mp b;exact(List.getElem_inj hN).mp (e1.trans e2.symm)
theorem nK{Q:Unit->Shared->Prop}(I:Inv X pins σ H s)(hN:X.N.Nodup)(hi:X.N[i]?=some x)(hx:Loc X.env.scope x)(r:RelV v u)
  (h:∀s',Inv X pins (σ.set i (some v)) H s'->(∃a,Heap.SameBut a s.heap s'.heap/\(a=X.env.locals\/X.env.cells.lookup x=some a))->Q () s') (hf:X.fn x=true\/X.env.scope.names.lookup x=some .local:=by first|exact .inl rfl|exact .inr rfl|assumption):wpAny M A (storeName X.env x u) Q E s:=by
 obtain⟨m,hn,hl⟩:=id I.loc;have hcls:(X.env.scope.kind == .class||(X.env.scope.kind == .module&&X.env.locals != X.env.globals))=false:=by rw[I.ok.kind];rfl
 have hiσ:i<σ.length:=by rw[I.len];exact(List.getElem?_eq_some_iff.mp hi).1
 have cne:=I.cne;have tracked:∀{a:Addr}{h':Heap},(∃o,s.heap.get? a=some o/\H a=none)->Heap.SameBut a s.heap h'->HOk X.prog X.w H h':=fun {a h'} ha hs b ob e=>by
  obtain⟨_,_,hfree⟩:=ha;refine(I.hok b ob e).stay (fun c w' hc q=>(hs.2 c ?_).trans q) (fun _ q=>q) fun _ _ q=>q;rintro rfl;rcases hc with rfl|hc
  .rw[hfree]at e;cases e
  .rw[hfree]at hc;cases hc
 rcases hx with hk|hk
 .refine wpAny_storeName_local hk hn (fun h' hn' hs=>?_) hcls;obtain⟨oL,_,_,hoL,_⟩:=id hn;refine h _ ⟨I.ok,I.os,I.bare,⟨fun b o e n hb hx=>?_,fun b o e n hb hx=>?_,I.base.free,fun b o e hx=>?_,I.base.tups,I.base.frzs,I.base.tbls⟩,⟨_,hn',fun j y v' e1 e2 e3=>?_⟩,fun y c e=>?_,I.free,I.freeC,fun p hp=>?_,tracked ⟨oL,hoL,I.free⟩ hs,by simpa using I.len⟩ ⟨_,hs,.inl rfl⟩
  .exact(hs.2 b (Nat.ne_of_lt (Nat.lt_of_lt_of_le (Heap.lt_size e) I.ok.above))).trans (I.base.keep b o e n hb hx)
  .obtain⟨sl,e1⟩:=I.base.slot b o e n hb hx;exact⟨sl,(hs.2 b (Nat.ne_of_lt (Nat.lt_of_lt_of_le (Heap.lt_size e) I.ok.above))).trans e1⟩
  .obtain⟨o',e1⟩:=I.base.there b o e hx;exact⟨o',(hs.2 b (Nat.ne_of_lt (Nat.lt_of_lt_of_le (Heap.lt_size e) I.ok.above))).trans e1⟩
  .by_cases hj:j=i
   .subst hj;rw[hi]at e1;cases e1;rw[List.getElem?_set_self hiσ]at e2;cases e2;exact⟨u,r,.inl ⟨hk,by simp⟩⟩
   .rw[List.getElem?_set_ne (Ne.symm hj)]at e2;obtain⟨u',r',q⟩:=hl j y v' e1 e2 e3;refine⟨u',r',?_⟩;rcases q with⟨k,e⟩|⟨k,c,e,z⟩
    .refine .inl ⟨k,?_⟩;have:y≠x:=fun e=>hj (rl hN e1 (e▸hi));simp[this,e]
    .exact .inr ⟨k,c,e,z.sameBut hs (cne y c e)⟩
  .obtain⟨w',z⟩:=I.cell y c e;exact⟨w',z.sameBut hs (cne y c e)⟩
  .obtain⟨e,n,ne,nf,d⟩:=I.pin p hp;exact⟨(hs.2 p.1 ne).trans e,n,ne,nf,d⟩
 .have hfn:X.fn x=true:=by
   rcases hf with z|z
   .exact z
   .rw[z]at hk;cases hk
  obtain⟨c,hc⟩:=I.ok.has x (.inl hk);obtain⟨w',z⟩:=I.cell x c hc;refine wpAny_storeName_cell I.ok.kind hk hc z (fun h' hc' hs=>?_);obtain⟨oc,hoc,hocd⟩:=id z;refine h {s with heap:=h' } ⟨I.ok,I.os,I.bare,⟨fun b o e n hb hx=>?_,fun b o e n hb hx=>?_,I.base.free,fun b o e hx=>?_,I.base.tups,I.base.frzs,I.base.tbls⟩,⟨m,hn.sameBut hs (Ne.symm (cne x c hc)),fun j y v' e1 e2 e3=>?_⟩,fun y c' e=>?_,I.free,I.freeC,fun p hp=>?_,tracked ⟨oc,hoc,I.freeC x c hc⟩ hs,by simpa using I.len⟩ ⟨c,hs,.inr hc⟩
  .exact(hs.2 b (Nat.ne_of_lt (Nat.lt_of_lt_of_le (Heap.lt_size e) (I.ok.cab x c hfn hc)))).trans (I.base.keep b o e n hb hx)
  .obtain⟨sl,e1⟩:=I.base.slot b o e n hb hx;exact⟨sl,(hs.2 b (Nat.ne_of_lt (Nat.lt_of_lt_of_le (Heap.lt_size e) (I.ok.cab x c hfn hc)))).trans e1⟩
  .obtain⟨o',e1⟩:=I.base.there b o e hx;exact⟨o',(hs.2 b (Nat.ne_of_lt (Nat.lt_of_lt_of_le (Heap.lt_size e) (I.ok.cab x c hfn hc)))).trans e1⟩
  .by_cases hj:j=i
   .subst hj;rw[hi]at e1;cases e1;rw[List.getElem?_set_self hiσ]at e2;cases e2;exact⟨u,r,.inr ⟨.inl hk,c,hc,hc'⟩⟩
   .rw[List.getElem?_set_ne (Ne.symm hj)]at e2;obtain⟨u',r',q⟩:=hl j y v' e1 e2 e3;refine⟨u',r',?_⟩;rcases q with q|⟨k,c',e,z'⟩
    .exact .inl q
    .refine .inr ⟨k,c',e,z'.sameBut hs ?_⟩;rintro rfl;exact hj (rl hN e1 (I.ok.inj _ _ _ e hc▸hi))
  .by_cases hcc:c'=c
   .subst hcc;exact⟨_,hc'⟩
   .obtain⟨w2,z2⟩:=I.cell y c' e;exact⟨w2,z2.sameBut hs hcc⟩
  .obtain⟨e,n,ne,nf,d⟩:=I.pin p hp;refine⟨(hs.2 p.1 ?_).trans e,n,ne,nf,d⟩;intro q;rw[q,hoc]at e;have q':oc=p.2:=Option.some.inj e;exact d w' (by rw[<-q'];exact hocd)
theorem jr{Q:Unit->Shared->Prop}(I:Inv X pins σ H s)(hN:X.N.Nodup)(hi:X.N[i]?=some x)(hx:Loc X.env.scope x)(r:RelV v u)
  (h:∀s',Inv X pins (σ.set i (some v)) H s'->Q () s') (hf:X.fn x=true\/X.env.scope.names.lookup x=some .local:=by first|exact .inl rfl|exact .inr rfl|assumption):wpAny M A (storeName X.env x u) Q E s :=
 nK I hN hi hx r (fun s' I' _=>h s' I') hf
theorem Inv.call'{s':Shared}(I:Inv X pins σ H s)(ho:s'.os=s.os)(u:Un (frs X.stack) ch H H' s.heap s'.heap)(hok:HOk X.prog X.w H' s'.heap)(hg:AllBare s'.gens)
  (hch:∀b∈ch,(b∈X.ex\/X.s₀.heap.objs.size≤b)/\b≠X.env.locals/\(∀x c,X.env.cells.lookup x=some c->c≠b)/\∀p∈X.pn++pins,p.1≠b):Inv X pins σ H' s':=by
 obtain⟨h',g',d',t',o'⟩:=s';have e:o'=s.os:=ho;subst e;exact I.call (g':=g') (t':=t') (d':=d') u hok hg hch
end
abbrev XK:=Value->Option Addr->Hp->Prop
abbrev St:=List (Option V)
abbrev VK:=V->Hp->Prop
abbrev TE:=St->Hp->VK->Prop
abbrev TT:=St->Hp->(Bool->Hp->Prop)->Prop
abbrev TA:=St->Hp->(List V->Hp->Prop)->Prop
structure Ends where
 nx:St->Hp->Prop
 rt:VK
 bk:St->Hp->Prop:=fun _ _=>False
 ct:St->Hp->Prop:=fun _ _=>False
abbrev TS:=Ends->St->Hp->Prop
def EP(X:Cx)(pins:List (Addr×Obj))(σ:St)(Q:VK)(u:Value)(s':Shared):Prop:=∃v H',Inv X pins σ H' s'/\RelV v u/\Q v H'
def TP(X:Cx)(pins:List (Addr×Obj))(σ:St)(Q:Bool->Hp->Prop)(b:Bool)(s':Shared):Prop:=∃H',Inv X pins σ H' s'/\Q b H'
def AP(X:Cx)(pins:List (Addr×Obj))(σ:St)(Q:List V->Hp->Prop)(us:List Value)(s':Shared):Prop:=∃vs H',Inv X pins σ H' s'/\Vals vs us/\Q vs H'
def SP(X:Cx)(pins:List (Addr×Obj))(D:Ends)(f:Flow)(s':Shared):Prop :=
 match f with
 | .next=>∃σ' H',Inv X pins σ' H' s'/\D.nx σ' H'
 | .brk=>∃σ' H',Inv X pins σ' H' s'/\D.bk σ' H'
 | .cont=>∃σ' H',Inv X pins σ' H' s'/\D.ct σ' H'
 | .ret u=>∃v σ' H',Inv X pins σ' H' s'/\RelV v u/\D.rt v H'
def PE(X:Cx)(e:Expr)(t:TE):Prop :=
 ∀(pins:List (Addr×Obj)) (s:Shared) (σ:St) (H:Hp) (Q:VK),Inv X pins σ H s->t σ H Q->wpAny (model X.prog X.w) X.A (eval e X.env) (EP X pins σ Q) X.xe s
def PT(X:Cx)(e:Expr)(t:TT):Prop :=
 ∀(pins:List (Addr×Obj)) (s:Shared) (σ:St) (H:Hp) (Q:Bool->Hp->Prop),Inv X pins σ H s->t σ H Q->wpAny (model X.prog X.w) X.A (isTrue e X.env (eval e X.env)) (TP X pins σ Q) X.xe s
def PW(X:Cx)(e:Expr)(t:TT):Prop :=
 ∀(whole:Sem Value) (pins:List (Addr×Obj)) (s:Shared) (σ:St) (H:Hp) (Q:Bool->Hp->Prop),Inv X pins σ H s->t σ H Q->wpAny (model X.prog X.w) X.A (isTrue e X.env whole) (TP X pins σ Q) X.xe s
theorem PW.pt{t:TT}(h:PW X e t):PT X e t:=h _
def PA(X:Cx)(es:List Expr)(t:TA):Prop :=
 ∀(pos:Pos) (pins:List (Addr×Obj)) (s:Shared) (σ:St) (H:Hp) (Q:List V->Hp->Prop),Inv X pins σ H s->t σ H Q->wpAny (model X.prog X.w) X.A (spliced (backTo pos (starEach es X.env))) (AP X pins σ Q) X.xe s
def PS(X:Cx)(st:Stmt)(t:TS):Prop :=
 ∀(pins:List (Addr×Obj)) (s:Shared) (σ:St) (H:Hp) (D:Ends),Inv X pins σ H s->t D σ H->wpAny (model X.prog X.w) X.A (exec st X.env) (SP X pins D) X.xe s
def PSs(X:Cx)(st:List Stmt)(t:TS):Prop :=
 ∀(pins:List (Addr×Obj)) (s:Shared) (σ:St) (H:Hp) (D:Ends),Inv X pins σ H s->t D σ H->wpAny (model X.prog X.w) X.A (execs st X.env) (SP X pins D) X.xe s
theorem thn{α:Type}{t:Sem α}{Q Q':α->Shared->Prop}{s:Shared}(h:wpAny M A t Q E s)(hQ:∀a s,Q a s->Q' a s):wpAny M A t Q' E s:=wpAny_mono h hQ fun _ _ x=>x
section
variable {X:Cx}
def tVar(i:Nat):TE:=fun σ H Q=>∃v,σ[i]?=some (some v)/\Q v H
def tC(v:V):TE:=fun _ H Q=>Q v H
theorem FO(hN:X.N[i]?=some x)(hv:Vis X.env.scope x)(hd:(x==("__debug__" : Str))=false:=by decide)(hcd:(x==("__classdict__" : Str))=false:=by decide):PE X (.Name x pos) (tVar i):=by
 intro pins s σ H Q I h;obtain⟨v,e,h⟩:=h;obtain⟨m,hn,hl⟩:=I.loc;obtain⟨u,r,l⟩:=hl i x v hN e hv;have fin:EP X pins σ Q u s:=⟨v,H,I,r,h⟩;rcases l with⟨hk,hm⟩|⟨hk,c,hc,hcell⟩
 .exact wpAny_Name (wpAny_loadName_local I.ok.kind hk hn hm fin) hd
 .rcases hk with hk|hk
  .exact wpAny_Name (wpAny_loadName_cell I.ok.kind hk hc hcell fin) hd
  .exact wpAny_Name (wpAny_loadName_free I.ok.kind hk hc hcell fin hcd) hd
theorem D6{i j pos}:PE X (.Constant (.int i) j pos) (tC (.int i)):=fun _ _ _ H _ I h=>wpAny_Constant_int ⟨.int i,H,I.tok _,⟨_,rfl⟩,h⟩
theorem JB{b j pos}:PE X (.Constant (.bool b) j pos) (tC (.bl b)):=fun _ _ _ H _ I h=>Constant_bool ⟨.bl b,H,I,rfl,h⟩
theorem Fy{j pos}:PE X (.Constant .none j pos) (tC .non):=fun _ _ _ H _ I h=>Constant_none ⟨.non,H,I,rfl,h⟩
theorem Ia{x j pos}:PE X (.Constant (.str x) j pos) (tC (.str x)):=fun _ _ _ H _ I h=>Calls.Constant_str ⟨.str x,H,I.tok _,⟨_,rfl⟩,h⟩
def Gl(X:Cx)(x:Str):Prop:=X.env.kindOf x=some .globalImplicit
theorem vq{s:Shared}(I:Inv X pins σ H s)(hg:Gl X x)(hm:X.mg x=some u)(h:Q u s)
  (hd:(x==("__debug__" : Str))=false:=by decide):wpAny (model X.prog X.w) X.A (eval (.Name x pos) X.env) Q E s :=
 Calls.Name_function_global I.ok.kind hg (Calls.loadGlobal_global (by rw[I.ok.glob];exact I.mod.glob.keeps I.bk) hm h) hd
theorem nA{s:Shared}(I:Inv X pins σ H s)(hg:Gl X x)(hm:X.mg x=none)(hv:bootBuiltins x=some u)(h:Q u s)
  (hn:x ≠ "__name__" :=by decide) (hd:(x==("__debug__" : Str))=false:=by decide):wpAny (model X.prog X.w) X.A (eval (.Name x pos) X.env) Q E s:=by
 obtain⟨mb,h1,h2⟩:=I.mod.blt;exact Calls.Name_function_global I.ok.kind hg (Calls.loadGlobal_builtin (by rw[I.ok.glob];exact I.mod.glob.keeps I.bk) hm (by rw[I.ok.blt];exact h1.keeps I.bk) ((h2 x hn).trans hv) h) hd
theorem Cu(hg:Gl X x)(hm:X.mg x=some u)(r:RelV v u)(hd:(x==("__debug__" : Str))=false:=by decide):PE X (.Name x pos) (tC v) :=
 fun _ _ _ H _ I h=>vq I hg hm ⟨v,H,I,r,h⟩ hd
variable {a b:Expr}{ta tb:TE}{pos:Pos}
def tB(t:TE):TT:=fun σ H Q=>t σ H fun x H1=>∃c,x = .bl c/\Q c H1
theorem FG{t:TE}(h:PE X e t)(he:∀whole,isTrue e X.env whole=(do let v <- whole;standAt e.pos;holding [v] (truthy v)):=by intro _;rfl):PT X e (tB t):=by
 intro pins s σ H Q I hw;refine isTrue_plain (thn (h pins s σ H _ I hw) fun v s1 ⟨x,H1,I1,r1,q1⟩=>?_) (he _);obtain⟨d,rfl,q⟩:=q1;cases r1;exact wpAny_truthy_bool ⟨H1,I1,q⟩
variable {tA tB':TT}{rest:List Expr}
def tAnd(t u:TT):TT:=fun σ H Q=>t σ H fun c H1=>if c=true then u σ H1 Q else Q false H1
def tOr(t u:TT):TT:=fun σ H Q=>t σ H fun c H1=>if c=true then Q true H1 else u σ H1 Q
def tNot(t:TT):TT:=fun σ H Q=>t σ H fun c H1=>Q (!c) H1
theorem Dw(ha:PT X a tA):PW X (.BoolOp .And [a] pos) tA:=by
 intro wh pins s σ H Q I h;refine isTrue_and (thn (ha pins s σ H Q I h) fun c s1 e=>?_)
 cases c with
 |true=>exact isTrue_and_nil e
 |false=>exact e
theorem IE(ha:PT X a tA):PW X (.BoolOp .Or [a] pos) tA:=by
 intro wh pins s σ H Q I h;refine isTrue_or (thn (ha pins s σ H Q I h) fun c s1 e=>?_)
 cases c with
 |false=>exact isTrue_or_nil e
 |true=>exact e
theorem Ft(ha:PT X a tA)(hb:PW X (.BoolOp .And (b::rest) pos) tB'):PW X (.BoolOp .And (a::b::rest) pos) (tAnd tA tB'):=by
 intro wh pins s σ H Q I h;refine isTrue_and (thn (ha pins s σ H _ I h) fun c s1 ⟨H1,I1,q1⟩=>?_)
 cases c with
 |true=>exact hb wh pins s1 σ H1 Q I1 q1
 |false=>exact⟨H1,I1,q1⟩
theorem KL(ha:PT X a tA)(hb:PW X (.BoolOp .Or (b::rest) pos) tB'):PW X (.BoolOp .Or (a::b::rest) pos) (tOr tA tB'):=by
 intro wh pins s σ H Q I h;refine isTrue_or (thn (ha pins s σ H _ I h) fun c s1 ⟨H1,I1,q1⟩=>?_)
 cases c with
 |true=>exact⟨H1,I1,q1⟩
 |false=>exact hb wh pins s1 σ H1 Q I1 q1
theorem GU(ha:PT X a tA):PT X (.UnaryOp .Not a pos) (tNot tA):=by
 intro pins s σ H Q I h;exact isTrue_not (ha pins s σ H (fun c H1=>Q (!c) H1) I h)
end
def SqL(K:PySem.W.Frag)(H:Hp)(a:Addr)(xs:List V):Prop :=
 Rd H a (.lst xs) \/
  ∃(o:Obj) (its:Array Value) (n:Nat),K.lookup a=some o/\o.cls = .type "list" /\ o.dict=none/\o.data = .seq its n/\its.size≤sizeLine/\Vals xs its.toList
def SqT(K:PySem.W.Frag)(H:Hp)(a:Addr)(xs:List V):Prop :=
 Rd H a (.tup xs) \/
  ∃(o:Obj) (its:Array Value) (n:Nat),K.lookup a=some o/\o.cls = .type "tuple" /\ o.dict=none/\o.data = .seq its n/\its.size≤sizeLine/\Vals xs its.toList
def absV:Value->Option V
 | .none=>some .non
 | .bool b=>some (.bl b)
 | .int i _=>some (.int i)
 | .str x _=>some (.str x)
 | .bytes b _=>some (.byt b)
 | .float b _=>some (.flt b)
 | .ref a=>some (.ref a)
 | .type n=>some (.ty n)
 |_=>none
theorem RelV.abs{x:V}(r:RelV x u):absV u=some x:=by
 cases x with
 |non=>cases r;rfl
 |bl _=>cases r;rfl
 |int _=>obtain⟨t,rfl⟩:=r;rfl
 |str _=>obtain⟨t,rfl⟩:=r;rfl
 |byt _=>obtain⟨t,rfl⟩:=r;rfl
 |flt _=>obtain⟨t,rfl⟩:=r;rfl
 |ref _=>cases r;rfl
 |ty _=>cases r;rfl
theorem RelV.inj{x y:V}(r:RelV x u)(q:RelV y u):x=y:=Option.some.inj (r.abs.symm.trans q.abs)
theorem Vals.inj:∀{xs ys:List V}{us:List Value},Vals xs us->Vals ys us->xs=ys
 |_,_,_,.nil,.nil=>rfl
 |_,_,_,.cons r t,.cons r' t'=>by rw[r.inj r',Vals.inj t t']
section
variable {X:Cx}{pins:List (Addr×Obj)}{σ:St}{H:Hp}{s:Shared}{a:Addr}{xs ys:List V}
theorem SqL.of(h:H a=some (.lst xs)):SqL K H a xs:=.inl (.inl h)
theorem SqT.of(h:H a=some (.tup xs)):SqT K H a xs:=.inl (.inl h)
theorem Inv.list(I:Inv X pins σ H s)(h:SqL X.K H a xs):∃its:List Value,Vals xs its/\PlainL s.heap a its.toArray/\xs.length≤sizeLine:=by
 rcases h with h|⟨o,its,n,hk,hc,hd,hs,hz,r⟩
 .obtain⟨z,its,n,r,e⟩:=h.ok I.hok;exact⟨its,r,⟨_,n,e,rfl,rfl,rfl⟩,z⟩
 .refine⟨its.toList,r,⟨o,n,I.kIn a o hk,hc,hd,by simpa using hs⟩,?_⟩;have e:=r.length;simp only[Array.length_toList]at e;omega
theorem Inv.tuple(I:Inv X pins σ H s)(h:SqT X.K H a xs):∃its:List Value,Vals xs its/\IsTup s.heap a its.toArray/\xs.length≤sizeLine:=by
 rcases h with h|⟨o,its,n,hk,hc,hd,hs,hz,r⟩
 .obtain⟨z,its,r,p⟩:=h.ok I.hok;exact⟨its,r,p.tup,z⟩
 .refine⟨its.toList,r,⟨o,I.kIn a o hk,hc,n,by simpa using hs⟩,?_⟩;have e:=r.length;simp only[Array.length_toList]at e;omega
theorem Inv.tupleP(I:Inv X pins σ H s)(h:SqT X.K H a xs):∃its:List Value,Vals xs its/\PlainT s.heap a its.toArray/\xs.length≤sizeLine:=by
 rcases h with h|⟨o,its,n,hk,hc,hd,hs,hz,r⟩
 .obtain⟨z,its,r,p⟩:=h.ok I.hok;exact⟨its,r,p,z⟩
 .refine⟨its.toList,r,⟨o,I.kIn a o hk,hc,hd,n,by simpa using hs⟩,?_⟩;have e:=r.length;simp only[Array.length_toList]at e;omega
theorem Inv.list_inj(I:Inv X pins σ H s)(h:SqL X.K H a xs)(h':SqL X.K H a ys):xs=ys:=by
 obtain⟨its,r,⟨o,n,e,_,_,d⟩,_⟩:=I.list h;obtain⟨its',r',⟨o',n',e',_,_,d'⟩,_⟩:=I.list h';rw[e]at e';cases e';rw[d]at d';injection d' with d1 _
 have:its=its':=by simpa using congrArg Array.toList d1
 subst this;exact r.inj r'
theorem Inv.tuple_inj(I:Inv X pins σ H s)(h:SqT X.K H a xs)(h':SqT X.K H a ys):xs=ys:=by
 obtain⟨its,r,⟨o,e,_,n,d⟩,_⟩:=I.tuple h;obtain⟨its',r',⟨o',e',_,n',d'⟩,_⟩:=I.tuple h';rw[e]at e';cases e';rw[d]at d';injection d' with d1 _
 have:its=its':=by simpa using congrArg Array.toList d1
 subst this;exact r.inj r'
end
abbrev Cx.wish(X:Cx)(E:Value->Shared->Prop):Cx:={X with xe:=E}
abbrev Cx.nox(X:Cx):Cx:=X.wish fun _ _=>False
theorem Cx.Ok.wish(ok:X.Ok)(E:Value->Shared->Prop):(X.wish E).Ok :=
 ⟨ok.mod,ok.kind,ok.glob,ok.blt,ok.above,ok.inj,ok.has,ok.cab,ok.hd,ok.frames,ok.stk,ok.exf,ok.bs,ok.bsz,ok.noex,ok.exfs,ok.funs,ok.frf⟩
theorem Cx.Ok.unwish(ok:(X.wish E).Ok):X.Ok :=
 ⟨ok.mod,ok.kind,ok.glob,ok.blt,ok.above,ok.inj,ok.has,ok.cab,ok.hd,ok.frames,ok.stk,ok.exf,ok.bs,ok.bsz,ok.noex,ok.exfs,ok.funs,ok.frf⟩
section
variable {X:Cx}{pins:List (Addr×Obj)}{σ:St}{H:Hp}{s:Shared}{E:Value->Shared->Prop}
theorem Inv.wish(I:Inv X pins σ H s)(E:Value->Shared->Prop):Inv (X.wish E) pins σ H s:=⟨I.ok.wish E,I.os,I.bare,I.base,I.loc,I.cell,I.free,I.freeC,I.pin,I.hok,I.len⟩
theorem Inv.unwish(I:Inv (X.wish E) pins σ H s):Inv X pins σ H s:=⟨I.ok.unwish,I.os,I.bare,I.base,I.loc,I.cell,I.free,I.freeC,I.pin,I.hok,I.len⟩
theorem SP.unwish{D:Ends}{f:Flow}{s':Shared}(h:SP (X.wish E) pins D f s'):SP X pins D f s':=by
 cases f with
 |next=>obtain⟨σ',H',I,q⟩:=h;exact⟨σ',H',I.unwish,q⟩
 |brk=>obtain⟨σ',H',I,q⟩:=h;exact⟨σ',H',I.unwish,q⟩
 |cont=>obtain⟨σ',H',I,q⟩:=h;exact⟨σ',H',I.unwish,q⟩
 |ret u=>obtain⟨v,σ',H',I,r,q⟩:=h;exact⟨v,σ',H',I.unwish,r,q⟩
theorem PSs.nox{st:List Stmt}{t:TS}(h:PSs X.nox st t):PSs X st t:=fun pins s σ H D I hw =>
 wpAny_mono (h pins s σ H D (I.wish _) hw) (fun _ _ q=>q.unwish) fun _ _ z=>False.elim z
end
section
variable {X:Cx}{st:Stmt}{rest:List Stmt}{t u:TS}{e:Expr}{te:TE}{pos:Pos}
def KM:TS:=fun D σ H=>D.nx σ H
def tSeq(t u:TS):TS:=fun D σ H=>t {D with nx:=u D} σ H
theorem AY:PSs X [] KM:=fun _ _ σ H _ I h=>wpAny_execs_nil ⟨σ,H,I,h⟩
theorem zk(h1:PS X st t)(h2:PSs X rest u):PSs X (st::rest) (tSeq t u):=by
 intro pins s σ H D I h;refine wpAny_execs_cons (thn (h1 pins s σ H {D with nx:=u D} I h) fun f s1 q=>?_)
 cases f with
 |next =>
  obtain⟨σ',H',I',q⟩:=q;exact h2 pins s1 σ' H' D I' q
 |ret v=>exact q
 |brk=>exact q
 |cont=>exact q
theorem CA(h1:PS X st t):PSs X [st] t:=by
 intro pins s σ H D I h;refine wpAny_execs_cons (thn (h1 pins s σ H D I h) fun f s1 q=>?_)
 cases f with
 |next=>exact wpAny_execs_nil q
 |ret v=>exact q
 |brk=>exact q
 |cont=>exact q
theorem Inv.quiet{s:Shared}(I:Inv X pins σ H s):interactive X.env=false:=by simp[interactive,I.ok.kind]
def KG(te:TE):TS:=fun D σ H=>te σ H fun _ H1=>D.nx σ H1
theorem AZ(he:PE X e te)(hs:swapsWith e none pos.line X.env=pure false:=by rfl):PS X (.Expr e pos) (KG te):=by
 intro pins s σ H D I h;exact wpAny_Expr_any (thn (he pins s σ H _ I h) fun v s1 ⟨x,H1,I1,r1,q1⟩=>⟨σ,H1,I1,q1⟩) I.quiet hs
def tRet(te:TE):TS:=fun D σ H=>te σ H D.rt
theorem Gn(he:PE X e te):PS X (.Return (some e) pos) (tRet te):=by
 intro pins s σ H D I h;exact wpAny_Return_some (thn (he pins s σ H _ I h) fun v s1 ⟨x,H1,I1,r1,q1⟩=>⟨x,σ,H1,I1,r1,q1⟩)
def tIfS(c:TT)(t u:TS):TS:=fun D σ H=>c σ H fun b H1=>if b=true then t D σ H1 else u D σ H1
theorem KI{c:Expr}{a b:List Stmt}{tc:TT}(hc:PT X c tc)(ha:PSs X a t)(hb:PSs X b u):PS X (.If c a b pos) (tIfS tc t u):=by
 intro pins s σ H D I h;refine wpAny_If (thn (hc pins s σ H _ I h) fun d s1 ⟨H1,I1,q1⟩=>?_)
 cases d with
 |true=>exact ha pins s1 σ H1 D I1 q1
 |false=>exact hb pins s1 σ H1 D I1 q1
def DU:TS:=fun _ _ _=>False
theorem yd:PS X st DU:=fun _ _ _ _ _ _ h=>h.elim
end
abbrev TG:=V->St->Hp->(St->Hp->Prop)->Prop
abbrev TGs:=List V->St->Hp->(St->Hp->Prop)->Prop
def PG(X:Cx)(target:Expr)(t:TG):Prop :=
 ∀(pins:List (Addr×Obj)) (s:Shared) (σ:St) (H:Hp) (v:V) (u:Value) (Q:St->Hp->Prop),Inv X pins σ H s->RelV v u->t v σ H Q ->
  wpAny (model X.prog X.w) X.A (assign target X.env u) (fun _ s'=>∃σ' H',Inv X pins σ' H' s'/\Q σ' H') X.xe s
def PGs(X:Cx)(ts:List Expr)(t:TGs):Prop :=
 ∀(pins:List (Addr×Obj)) (s:Shared) (σ:St) (H:Hp) (vs:List V) (us:List Value) (Q:St->Hp->Prop),Inv X pins σ H s->Vals vs us->t vs σ H Q ->
  wpAny (model X.prog X.w) X.A (assignInOrder ((assignEach ts X.env).map (·.2)) us) (fun _ s'=>∃σ' H',Inv X pins σ' H' s'/\Q σ' H') X.xe s
abbrev TSet:=V->V->V->Hp->(Hp->Prop)->Prop
def PSet(X:Cx)(t:TSet):Prop :=
 ∀(pins:List (Addr×Obj)) (s:Shared) (σ:St) (H:Hp) (o i v:V) (ov iv u:Value) (Q:Hp->Prop),Inv X pins σ H s->RelV o ov->RelV i iv->RelV v u->t o i v H Q ->
  wpAny (model X.prog X.w) X.A (setItem ov iv u) (fun _ s'=>∃H',Inv X pins σ H' s'/\Q H') X.xe s
section
variable {X:Cx}{pos:Pos}
def yq(i:Nat):TG:=fun v σ H Q=>Q (σ.set i (some v)) H
theorem CZ(hN:X.N.Nodup)(hi:X.N[i]?=some x)(hx:Loc X.env.scope x)(hf:X.fn x=true\/X.env.scope.names.lookup x=some .local:=by first|exact .inl rfl|exact .inr rfl|assumption):PG X (.Name x pos) (yq i):=by
 intro pins s σ H v u Q I r h;exact wpAny_assign_Name (jr I hN hi hx r (fun s' I'=>⟨_,H,I',h⟩) hf)
def gNil:TGs:=fun vs σ H Q=>vs=[]/\Q σ H
def K8(t:TG)(u:TGs):TGs:=fun vs σ H Q=>∃v r,vs=v::r/\t v σ H fun σ' H'=>u r σ' H' Q
theorem Cb:PGs X [] gNil:=by
 intro pins s σ H vs us Q I r h;obtain⟨e,h⟩:=h;subst e;cases r;exact assignInOrder_nil ⟨σ,H,I,h⟩
theorem yw{t:TG}{u:TGs}(h1:PG X e t)(h2:PGs X es u)
  (hs:(assignEach (e::es) X.env).map (·.2)=assign e X.env::(assignEach es X.env).map (·.2):=by rfl):PGs X (e::es) (K8 t u):=by
 intro pins s σ H vs us Q I r h;obtain⟨v,vr,e1,h⟩:=h;subst e1
 cases r with
 |cons r rr =>
  rw[hs];refine assignInOrder_cons (thn (h1 pins s σ H _ _ _ I r h) fun _ s1 ⟨σ1,H1,I1,q1⟩=>?_);exact h2 pins s1 σ1 H1 _ _ Q I1 rr q1
def gTup(K:PySem.W.Frag)(n:Nat)(t:TGs):TG:=fun v σ H Q=>∃a xs,v = .ref a/\SqT K H a xs/\xs.length=n/\t xs σ H Q
theorem Fq{k:Nat}{t:TGs}{n:Nat}(hc:X.calm=true)(h:PGs X es t)
  (hn:(assignEach es X.env).length=n:=by rfl) (hst:(assignEach es X.env).findIdx? (·.1)=none:=by rfl):PG X (.Tuple es k pos) (gTup X.K n t):=by
 intro pins s σ H v u Q I r hw;obtain⟨a,xs,e1,hq,hl,hw⟩:=hw;subst e1;cases r;obtain⟨its,rv,ht,hz⟩:=I.tuple hq;refine assign_Tuple_tuple (I.ok.hd hc) ht (by simp[hn,<-hl,rv.length]) hst fun h' hx=>?_;have I1:Inv X pins σ H {s with heap:=h' }:=I.kept (t':=s.toks) fun b o e=>hx b o (Nat.ne_of_lt (Heap.lt_size e)) e;exact h pins _ σ H xs _ Q I1 (by simpa using rv) hw
def gSub(to ti:TE)(t:TSet):TG:=fun v σ H Q=>to σ H fun o H1=>ti σ H1 fun i H2=>t o i v H2 fun H3=>Q σ H3
theorem Jh{o i:Expr}{to ti:TE}{t:TSet}(ho:PE X o to)(hi:PE X i ti)(hs:PSet X t)
  (ha:∀v,assign (.Subscript o i pos) X.env v=(do
   let ov <- holding [v] (eval o X.env)
   let iv <- holding [v,ov] (eval i X.env)
   standAt pos
   holding [v,ov,iv] (setItem ov iv v)
   release [v,ov,iv] []):=by intro _;rfl):PG X (.Subscript o i pos) (gSub to ti t):=by
 intro pins s σ H v u Q I r h;rw[ha];refine wpAny_bind (wpAny_holding (thn (ho pins s σ H _ I h) fun ov s1 ⟨x,H1,I1,r1,q1⟩=>?_));refine wpAny_bind (wpAny_holding (thn (hi pins s1 σ H1 _ I1 q1) fun iv s2 ⟨y,H2,I2,r2,q2⟩=>?_));refine wpAny_bind (wpAny_standAt (wpAny_bind (wpAny_holding (thn (hs pins s2 σ H2 x y v ov iv u _ I2 r1 r2 r q2) fun _ s3 ⟨H3,I3,q3⟩=>?_))));exact wpAny_release ⟨σ,H3,I3,q3⟩
def tAsg(te:TE)(g:TG):TS:=fun D σ H=>te σ H fun x H1=>g x σ H1 D.nx
theorem zY{te:TE}{g:TG}(he:PE X e te)(hg:PG X tg g)(hs:swapsWithSole [tg] e pos.line X.env=pure false:=by rfl)(hw:swappedStores [tg] e X.env=pure none:=by rfl)
  (h1:(assignEach [tg] X.env).map (·.2)=[assign tg X.env]:=by rfl):PS X (.Assign [tg] e pos) (tAsg te g):=by
 intro pins s σ H D I h;refine wpAny_Assign_stores (thn (he pins s σ H _ I h) fun v s1 ⟨x,H1,I1,r1,q1⟩=>?_) hs hw;rw[h1];exact thn (hg pins s1 σ H1 x v _ I1 r1 q1) fun _ s2 q=>q
theorem E9{te:TE}{pos':Pos}(hN:X.N.Nodup)(hi:X.N[i]?=some x)(hx:Loc X.env.scope x)(he:PE X e te)(hs:swapsWith e (some (.Name x pos')) pos.line X.env=pure false:=by rfl)(hf:X.fn x=true\/X.env.scope.names.lookup x=some .local:=by first|exact .inl rfl|exact .inr rfl|assumption) :
  PS X (.Assign [.Name x pos'] e pos) (tAsg te (yq i)):=by
 intro pins s σ H D I h;refine wpAny_Assign_Name (thn (he pins s σ H _ I h) fun v s1 ⟨y,H1,I1,r1,q1⟩=>?_) hs;exact jr I1 hN hi hx r1 (fun s2 I2=>⟨_,H1,I2,q1⟩) hf
def tPar(i j:Nat)(ta:TA):TS:=fun D σ H=>ta σ H fun vs H1=>∃v w,vs=[v,w]/\D.nx ((σ.set i (some v)).set j (some w)) H1
theorem Ga{y:Str}{a b:Expr}{ta:TA}{px py pt:Pos}{kt k2 pt2}(hc:X.calm=true)(hN:X.N.Nodup)(hi:X.N[i]?=some x)(hj:X.N[j]?=some y)(hij:i≠j)
  (hx:X.env.scope.names.lookup x=some .local) (hy:X.env.scope.names.lookup y=some .local) (ha:PA X [a,b] ta)
  (hw:swappedStores [.Tuple [.Name x px,.Name y py] kt pt] (.Tuple [a,b] k2 pt2) X.env=pure (some [x,y]))
  (hs:swapsWithSole [.Tuple [.Name x px,.Name y py] kt pt] (.Tuple [a,b] k2 pt2) pos.line X.env=pure false:=by rfl) :
  PS X (.Assign [.Tuple [.Name x px,.Name y py] kt pt] (.Tuple [a,b] k2 pt2) pos) (tPar i j ta):=by
 intro pins s σ H D I h;rw[exec_Assign_arm];refine wpAny_bind (wpAny_standAt ?_);rw[hs];refine wpAny_bind (wpAny_pure ?_);rw[if_neg (by decide)];refine wpAny_bind (Tuple_ (thn (ha _ pins s σ H _ I h) fun us s1 ⟨vs,H1,I1,r1,q1⟩=>?_));obtain⟨v,w,e1,q1⟩:=q1;subst e1;obtain⟨u1,u2,rfl,rv,rw'⟩:∃u1 u2,us=[u1,u2]/\RelV v u1/\RelV w u2:=by
  cases r1 with
  | cons p q =>
   cases q with
   |cons p' q' =>
    cases q';exact⟨_,_,rfl,p,p'⟩
 refine wpAny_newObj_type ?_ (by show 2≤sizeLine;decide);have I2:Inv X pins σ H1 {s1 with heap:=s1.heap.push {cls:=.type "tuple",data:=.seq [u1,u2].toArray} }:=I1.kept (t':=s1.toks) fun b o e=>Heap.get?_push_of_some _ e;rw[hw];refine wpAny_bind (wpAny_pure ?_);show wpAny (model X.prog X.w) X.A (do rule "assign.swapped-stores";let items <- unpackItems (.ref s1.heap.objs.size) 2 none;assignInOrder [fun v=>bindName X.env y v,fun v=>bindName X.env x v] items.reverse;pure Flow.next) _ _ _;refine wpAny_bind (wpAny_rule (wpAny_bind (unpackItems_tuple (items:=#[u1,u2]) (I.ok.hd hc) (IsTup.new s1.heap _) fun h' hx'=>?_)));have I3:=I2.kept (h':=h') (t':=s1.toks) fun b o e=>hx' b o (Nat.ne_of_lt (Heap.lt_size e)) e;show wpAny _ _ (assignInOrder [fun v=>bindName X.env y v,fun v=>bindName X.env x v] [u2,u1] >>= fun _=>pure Flow.next) _ _ _;refine wpAny_bind (assignInOrder_cons (wpAny_bindName (jr I3 hN hj (.inl hy) rw' (fun s2 I4=>?_) (.inr hy))));refine assignInOrder_cons (wpAny_bindName (jr I4 hN hi (.inl hx) rv (fun s3 I5=>assignInOrder_nil (wpAny_pure ?_)) (.inr hx)));rw[List.set_comm _ _ (Ne.symm hij)]at I5;exact⟨_,H1,I5,q1⟩
end
section
variable {X:Cx}{pos:Pos}
def H9(c:TT)(tb:TS):TS:=fun D σ H=>∃W:Nat->St->Hp->Prop,(∃m,W m σ H)/\∀m σ H,W m σ H ->
 c σ H fun b H1=>if b=true then ∃N:St->Hp->Prop,(∀σ' H',N σ' H'->∃m',m'<m/\W m' σ' H')/\tb {D with nx:=N,ct:=N,bk:=D.nx} σ H1 else D.nx σ H1
theorem yv{c:Expr}{tc:TT}{tb:TS}(hp:PassesOwn (model X.prog X.w) X.A X.env X.xe)(hc:PT X c tc)(hb:PSs X body tb):PS X (.While c body [] pos) (H9 tc tb):=by
 intro pins s σ H D I h;obtain⟨W,⟨m0,w0⟩,turn⟩:=h;refine wpAny_While (codeAny_whileLoop (fun n s'=>∃σ' H',Inv X pins σ' H' s'/\W n σ' H') ?_ m0 ⟨σ,H,I,w0⟩);rintro n s1 ⟨σ1,H1,I1,w1⟩;refine wpAny_passesOwn hp (thn (hc pins s1 σ1 H1 _ I1 (turn n σ1 H1 w1)) fun b s2 ⟨H2,I2,q2⟩=>?_)
 cases b with
 | true =>
  obtain⟨N,hN,q2⟩:=q2;rw[if_pos rfl];refine wpAny_passesOwn hp (thn (hb pins s2 σ1 H2 _ I2 q2) fun f s3 q3=>?_)
  cases f with
  |next =>
   obtain⟨σ3,H3,I3,n3⟩:=q3;obtain⟨m',hm,w3⟩:=hN σ3 H3 n3;exact⟨m',hm,σ3,H3,I3,w3⟩
  |cont =>
   obtain⟨σ3,H3,I3,n3⟩:=q3;obtain⟨m',hm,w3⟩:=hN σ3 H3 n3;exact⟨m',hm,σ3,H3,I3,w3⟩
  |brk=>exact q3
  |ret v=>exact q3
 |false =>
  rw[if_neg Bool.false_ne_true];exact wpAny_execs_nil ⟨σ1,H2,I2,q2⟩
end
structure It where
 go:Nat->Hp->Prop
 yld:Nat->Hp->V->Hp->Prop
 stop:Nat->Hp->Prop
def FpOk(X:Cx)(pins:List (Addr×Obj))(H:Hp)(b:Addr):Prop :=
 H b=none/\b≠X.env.locals/\b∉X.fs/\(b∈X.ex\/X.s₀.heap.objs.size≤b)/\(∀x c,X.env.cells.lookup x=some c->c≠b)/\∀p∈X.pn++pins,p.1≠b
theorem Inv.fpOk{H':Hp}{s:Shared}(I:Inv X pins σ H s)(hb:s.heap.objs.size≤b)(hn:H' b=none):FpOk X pins H' b:=by
 refine⟨hn,Nat.ne_of_gt (Nat.lt_of_lt_of_le I.lt hb),I.nofs hb,.inr (Nat.le_trans I.sz hb),fun x c e z=>?_,fun p hp z=>?_⟩
 .obtain⟨v,q⟩:=I.cell x c e;exact absurd (Nat.lt_of_lt_of_le q.lt (by rw[z];exact hb)) (Nat.lt_irrefl _)
 .exact absurd (Nat.lt_of_lt_of_le (Heap.lt_size (I.pin p hp).1) (by rw[z];exact hb)) (Nat.lt_irrefl _)
structure Turn(P:Program)(w:World)(K:PySem.W.Frag)(tg:Expr)(J:It)(fp:List Addr)(it:Addr)(tn:Nat->Heap->Prop):Prop where
 mem:it∈fp
 obj:∀i h,tn i h->∀b∈fp,∃o,h.get? b=some o/\∀v,o.data≠.cell v
 keep:∀i h h',tn i h->(∀b∈fp,∀o,h.get? b=some o->h'.get? b=some o)->tn i h'
 item:∀(X:Cx),X.prog=P->X.w=w->X.K=K->X.calm=true->∀(i:Nat) (pins:List (Addr×Obj)) (s:Shared) (σ:St) (H:Hp) (E:Value->Shared->Prop),Inv X pins σ H s->(∀b∈fp,FpOk X pins H b)->tn i s.heap->J.go i H ->
  wpAny (model P w) X.A (pyNext (.ref it)) (fun r s1=>∃u,r=some u /\
   wpAny (model P w) X.A (letOwnedTupleGo tg (.ref it) u) (fun _ s2=>∃x H',Inv X pins σ H' s2/\RelV x u/\J.yld i H x H'/\tn (i+1) s2.heap/\∀b∈fp,H' b=none) E s1) E s
 done:∀(X:Cx),X.prog=P->X.w=w->X.K=K->X.calm=true->∀(i:Nat) (pins:List (Addr×Obj)) (s:Shared) (σ:St) (H:Hp) (E:Value->Shared->Prop),Inv X pins σ H s->(∀b∈fp,FpOk X pins H b)->tn i s.heap->J.stop i H ->
  wpAny (model P w) X.A (pyNext (.ref it)) (fun r s1=>r=none/\Inv X pins σ H s1) E s
 self:∀(A:Around) (i:Nat) (s:Shared) (Q:Value->Shared->Prop) (E:Value->Shared->Prop),tn i s.heap->Q (.ref it) s->wpAny (model P w) A (pyIter (.ref it)) Q E s
abbrev TI:=St->Hp->(It->Hp->Prop)->Prop
def PIE(X:Cx)(pins:List (Addr×Obj))(σ:St)(tg:Expr)(R:It->Hp->Prop)(itv:Value)(s2:Shared):Prop :=
 ∃(it:Addr) (fp:List Addr) (tn:Nat->Heap->Prop) (J:It) (H':Hp),itv = .ref it/\Inv X pins σ H' s2/\Turn X.prog X.w X.K tg J fp it tn/\tn 0 s2.heap/\(∀b∈fp,FpOk X pins H' b)/\R J H'
def PI(X:Cx)(tg iter:Expr)(wi:TI):Prop :=
 ∀(pins:List (Addr×Obj)) (s:Shared) (σ:St) (H:Hp) (R:It->Hp->Prop),Inv X pins σ H s->wi σ H R ->
  wpAny (model X.prog X.w) X.A (eval iter X.env) (fun v s1=>wpAny (model X.prog X.w) X.A (pyIter v) (PIE X pins σ tg R) X.xe s1) X.xe s
theorem yH{s:Shared}{it:Addr}{o:Obj}{n:String}{vs:Array Value}{Q:Unit->Shared->Prop}(ho:s.heap.get? it=some o)(hc:o.cls = .type n)(hd:o.data = .fields vs)
  (hn:["enumerate","zip","dict_itemiterator","dict_reverseitemiterator","odict_iterator","itertools.zip_longest","itertools.pairwise"].contains n=false) (hQ:Q () s):wpAny M A (letOwnedTupleGo tg (.ref it) u) Q E s:=by
 unfold letOwnedTupleGo
 cases tg<;>first
  |exact wpAny_pure hQ
  | (cases u<;>first
    |exact wpAny_pure hQ
    | (refine wpAny_bind (wpAny_load ho ?_)
       rw[hc,hd];show wpAny M A (if (["enumerate","zip","dict_itemiterator","dict_reverseitemiterator","odict_iterator","itertools.zip_longest","itertools.pairwise"].contains n&&vs[0]?==some (rawInt _))=true then _ else _) Q E s;rw[if_neg (by intro h;rw[hn,Bool.false_and]at h;cases h)];exact wpAny_pure hQ))
def Itl(K:PySem.W.Frag)(a:Addr):It :=
 ⟨fun i H=>∃xs x,SqL K H a xs/\xs[i]?=some x,fun i H x H'=>H'=H/\∀xs,SqL K H a xs->xs[i]?=some x,fun i H=>∃xs,SqL K H a xs/\xs.length≤i⟩
def Itt(K:PySem.W.Frag)(a:Addr):It :=
 ⟨fun i H=>∃xs x,SqT K H a xs/\xs[i]?=some x,fun i H x H'=>H'=H/\∀xs,SqT K H a xs->xs[i]?=some x,fun i H=>∃xs,SqT K H a xs/\xs.length≤i⟩
def Itr(lo:Int)(n:Nat):It:=⟨fun i _=>i<n,fun i H x H'=>H'=H/\x = .int (lo+i),fun i _=>n≤i⟩
theorem ue(a it:Addr):Turn P w K tg (Itl K a) [it] it (fun i h=>h.IsListIter it a i) where
 mem:=by simp
 obj:=fun i h st b hb=>by
  have e:b=it:=by simpa using hb
  subst e;obtain⟨o,e,c,d⟩:=st;exact⟨o,e,fun v z=>by rw[d]at z;cases z⟩
 keep:=fun i h h' st k=>st.at fun o e=>k it (by simp) o e
 item:=by
  intro X hP hw hK hc i pins s σ H E I hf st hg;subst hP hw hK;obtain⟨xs,x,hq,hx⟩:=hg;obtain⟨its,rv,p,hz⟩:=I.list hq;obtain⟨u,hu,ru⟩:=rv.get hx;obtain⟨f0,f1,f2,f3,f4,f5⟩:=hf it (by simp);refine wpAny_pyNext_list_item st p.isList (x:=u) (by simpa using hu) fun h' st' sb=>?_;have I1:Inv X pins σ H {s with heap:=h' }:=I.turned (t':=s.toks) (fun b o hb e=>(sb.2 b hb).trans e) f0 f1 f3 f4 f5;obtain⟨o,e,c,d⟩:=id st';exact⟨u,rfl,yH (s:={s with heap:=h' }) e c d (by decide) ⟨x,H,I1,ru,⟨rfl,fun ys hy=>by rw[I.list_inj hy hq];exact hx⟩,st',fun b hb=>(hf b hb).1⟩⟩
 done:=by
  intro X hP hw hK hc i pins s σ H E I hf st hg;subst hP hw hK;obtain⟨xs,hq,hx⟩:=hg;obtain⟨its,rv,p,hz⟩:=I.list hq;obtain⟨f0,f1,f2,f3,f4,f5⟩:=hf it (by simp);have hl:=rv.length;exact wpAny_pyNext_list_end (I.ok.hd hc) st p.isList (by simp;omega) fun h' eb=>⟨rfl,I.turned (t':=s.toks) (fun b o hb e=>eb b o hb e) f0 f1 f3 f4 f5⟩
 self:=fun _ _ _ _ _ st h=>wpAny_pyIter_listiter st h
theorem su(a it:Addr):Turn P w K tg (Itt K a) [it] it (fun i h=>h.IsTupleIter it a i) where
 mem:=by simp
 obj:=fun i h st b hb=>by
  have e:b=it:=by simpa using hb
  subst e;obtain⟨o,e,c,d⟩:=st;exact⟨o,e,fun v z=>by rw[d]at z;cases z⟩
 keep:=fun i h h' st k=>st.at fun o e=>k it (by simp) o e
 item:=by
  intro X hP hw hK hc i pins s σ H E I hf st hg;subst hP hw hK;obtain⟨xs,x,hq,hx⟩:=hg;obtain⟨its,rv,p,hz⟩:=I.tuple hq;obtain⟨u,hu,ru⟩:=rv.get hx;obtain⟨f0,f1,f2,f3,f4,f5⟩:=hf it (by simp);refine wpAny_pyNext_tuple_item st (show s.heap.IsTuple a its.toArray from p) (x:=u) (by simpa using hu) fun h' st' sb=>?_;have I1:Inv X pins σ H {s with heap:=h' }:=I.turned (t':=s.toks) (fun b o hb e=>(sb.2 b hb).trans e) f0 f1 f3 f4 f5;obtain⟨o,e,c,d⟩:=id st';exact⟨u,rfl,yH (s:={s with heap:=h' }) e c d (by decide) ⟨x,H,I1,ru,⟨rfl,fun ys hy=>by rw[I.tuple_inj hy hq];exact hx⟩,st',fun b hb=>(hf b hb).1⟩⟩
 done:=by
  intro X hP hw hK hc i pins s σ H E I hf st hg;subst hP hw hK;obtain⟨xs,hq,hx⟩:=hg;obtain⟨its,rv,p,hz⟩:=I.tuple hq;obtain⟨f0,f1,f2,f3,f4,f5⟩:=hf it (by simp);have hl:=rv.length;exact wpAny_pyNext_tuple_end (I.ok.hd hc) st (show s.heap.IsTuple a its.toArray from p) (by simp;omega) fun h' eb=>⟨rfl,I.turned (t':=s.toks) (fun b o hb e=>eb b o hb e) f0 f1 f3 f4 f5⟩
 self:=fun _ _ _ _ _ st h=>wpAny_pyIter_tupleiter st h
theorem tf(it:Addr)(lo:Int)(n:Nat):Turn P w K tg (Itr lo n) [it] it (fun i h=>IsRangeIter h it (lo+(i:Nat)*1) ((n:Int)-(i:Nat)) 1) where
 mem:=by simp
 obj:=fun i h st b hb=>by
  have e:b=it:=by simpa using hb
  subst e;exact⟨_,st,fun v z=>by
   have z':Data.fields _=Data.cell v:=z;cases z'⟩
 keep:=fun i h h' st k=>k it (by simp) _ st
 item:=by
  intro X hP hw hK hc i pins s σ H E I hf st hg;subst hP hw hK;obtain⟨f0,f1,f2,f3,f4,f5⟩:=hf it (by simp);have W:=Walks.range (prog:=X.prog) (w:=X.w) (I.ok.hd hc) it lo 1 n;refine W.item i s _ _ hg st fun v h' tk hv st' kk=>?_;obtain⟨t,rfl⟩:=hv;have I1:Inv X pins σ H {s with heap:=h',toks:=tk}:=I.turned (fun b o hb e=>kk b o (by simpa using hb) e) f0 f1 f3 f4 f5;refine⟨_,rfl,yH (s:={s with heap:=h',toks:=tk}) (n := "range_iterator") st' rfl rfl (by decide) ⟨.int (lo+i),H,I1,⟨t,?_⟩,⟨rfl,rfl⟩,st',fun b hb=>(hf b hb).1⟩⟩;rw[Int.mul_one]
 done:=by
  intro X hP hw hK hc i pins s σ H E I hf st hg;subst hP hw hK;obtain⟨f0,f1,f2,f3,f4,f5⟩:=hf it (by simp);exact wpAny_pyNext_range_end (I.ok.hd hc) st (by have:n≤i:=hg;omega) fun h' eb=>⟨rfl,I.turned (t':=s.toks) (fun b o hb e=>eb b o hb e) f0 f1 f3 f4 f5⟩
 self:=fun _ _ _ _ _ st h=>wpAny_pyIter_rangeiter st h
section
variable {X:Cx}{tg:Expr}
theorem x8{s:Shared}{R:It->Hp->Prop}{lo hi:Int}{t u v:Tok}{tk:Nat}(I:Inv X pins σ H s)(h1 : -(2^62)≤lo)(h2:lo<2^62)(h3 : -(2^62)≤hi)(h4:hi<2^62)
  (q:R (Itr lo (hi-lo).toNat) H):wpAny (model X.prog X.w) X.A (pyIter (.ref s.heap.objs.size)) (PIE X pins σ tg R) E {s with heap:=s.heap.push {cls:=.type "range",data:=.fields #[.int lo t,.int hi u,.int 1 v]},toks:=tk}:=by
 refine wpAny_pyIter_range (IsRange.new ..) (small_one h1 h2 h3 h4) ?_;have I1:Inv X pins σ H {s with heap:=s.heap.push {cls:=.type "range",data:=.fields #[.int lo t,.int hi u,.int 1 v]},toks:=tk}:=I.kept fun b o e=>Heap.get?_push_of_some _ e;refine⟨(s.heap.push {cls:=.type "range",data:=.fields #[.int lo t,.int hi u,.int 1 v]}).objs.size,[(s.heap.push {cls:=.type "range",data:=.fields #[.int lo t,.int hi u,.int 1 v]}).objs.size],_,_,H,rfl,
  I1.kept (t':=tk) fun b o e=>Heap.get?_push_of_some _ e,tf _ lo (hi-lo).toNat,?_,fun b hb=>?_,q⟩
 .have e1:lo+((0:Nat):Int)*1=lo:=by simp
  have e2:(((hi-lo).toNat:Nat):Int)-((0:Nat):Int)=Builtin.Range.rangeSize lo hi 1:=by rw[rangeSize_one];split<;>omega
  show IsRangeIter _ _ (lo+((0:Nat):Int)*1) ((((hi-lo).toNat:Nat):Int)-((0:Nat):Int)) 1;rw[e1,e2];exact Heap.get?_push_size _ rfl
 .have e:b=(s.heap.push {cls:=.type "range",data:=.fields #[.int lo t,.int hi u,.int 1 v]}).objs.size:=by simpa using hb
  subst e;exact I1.fpOk (Nat.le_refl _) (I1.hok.fresh (Nat.le_refl _))
def JD(ta:TA):TI:=fun σ H R=>ta σ H fun vs H1=>∃j:Int,vs=[.int j]/\-(2^62)≤j/\j<2^62/\R (Itr 0 j.toNat) H1
theorem uC{a:Expr}{ta:TA}{p:Pos}(hg:Gl X "range")(hm:X.mg "range" = none)(ha:PA X [a] ta)(hs:starEach [a] X.env=[(false,eval a X.env)]:=by rfl):PI X tg (.Call (.Name "range" p) [a] [] pos) (JD ta):=by
 intro pins s σ H R I h;refine Call_ (nA I hg hm boot_range (PyProof.Rows.callWith_type1 (thn (ha pos pins s σ H _ I h) fun us s1 ⟨vs,H1,I1,r1,q1⟩=>?_) hs rfl));obtain⟨j,e,q1,q2,q⟩:=q1;subst e
 cases r1 with
 |cons r rr =>
  cases rr;obtain⟨t,rfl⟩:=r;exact call_range_1 (x8 I1 (by omega) (by omega) q1 q2 (by simpa using q))
def tFor(wi:TI)(g:TG)(tb:TS):TS:=fun D σ H=>wi σ H fun J H1=>∃W:Nat->Nat->St->Hp->Prop,(∃m,W 0 m σ H1)/\∀i m σ H,W i m σ H ->
 (J.stop i H/\D.nx σ H)\/(J.go i H/\∃N:St->Hp->Prop,(∀σ' H',N σ' H'->∃m',m'<m/\W (i+1) m' σ' H')/\∀x H',J.yld i H x H'->g x σ H' fun σ2 H2=>tb {D with nx:=N,ct:=N,bk:=D.nx} σ2 H2)
def nH(fp:List Addr)(h:Heap):List (Addr×Obj):=fp.filterMap fun b=>(h.get? b).map fun o=>(b,o)
theorem fC{o:Obj}(hb:b∈fp)(e:h.get? b=some o):(b,o)∈nH fp h:=List.mem_filterMap.mpr ⟨b,hb,by rw[e];rfl⟩
theorem xv{p:Addr×Obj}(hp:p∈nH fp h):p.1∈fp/\h.get? p.1=some p.2:=by
 obtain⟨b,hb,e⟩:=List.mem_filterMap.mp hp
 cases q:h.get? b with
 |none=>rw[q]at e;cases e
 |some o =>
  rw[q]at e;have e':(b,o)=p:=Option.some.inj e;subst e';exact⟨hb,q⟩
theorem Inv.pinned{s:Shared}(I:Inv X pins σ H s)(hf:∀b∈fp,FpOk X pins H b)(ho:∀b∈fp,∃o,s.heap.get? b=some o/\∀v,o.data≠.cell v):Inv X (pins++nH fp s.heap) σ H s :=
 I.pins_of fun p hp=>(List.mem_append.mp hp).elim (fun z=>I.pin p (List.mem_append_right _ z)) fun z=>by
  obtain⟨hb,e⟩:=xv z;obtain⟨f0,f1,f2,_⟩:=hf p.1 hb;obtain⟨o,e',d⟩:=ho p.1 hb;rw[e]at e';cases e';exact⟨e,f0,f1,f2,d⟩
theorem Inv.unpinned{pl:List (Addr×Obj)}{s:Shared}(I:Inv X (pins++pl) σ H s):Inv X pins σ H s:=I.pins_of fun p hp=>I.pin p (List.mem_append_right _ (List.mem_append_left _ hp))
theorem GL{iter:Expr}{wi:TI}{g:TG}{tb:TS}(hp:PassesOwn (model X.prog X.w) X.A X.env X.xe)(hc:X.calm=true)(hi:PI X tg iter wi)(hg:PG X tg g)(hb:PSs X body tb)
  (hs:∀x,foldedSetIterable iter X.env x=pure x:=by intro _;rfl):PS X (.For tg iter body [] pos) (tFor wi g tb):=by
 intro pins s σ H D I h;refine wpAny_For (thn (hi pins s σ H _ I h) fun v s1 h1=>thn h1 fun itv s2 h2=>?_) hs;obtain⟨it,fp,tn,J,H2,e,I2,T,st2,f2,W,⟨m0,w0⟩,turn⟩:=h2;subst e;have stat:∀{H':Hp},(∀b∈fp,H' b=none)->∀b∈fp,FpOk X pins H' b:=fun hn b hb=>⟨hn b hb,(f2 b hb).2⟩;refine codeAny_forLoop_any (fun n s'=>∃i σ' H',Inv X pins σ' H' s'/\tn i s'.heap/\(∀b∈fp,H' b=none)/\W i n σ' H') ?_ m0 ⟨0,σ,H2,I2,st2,fun b hb=>(f2 b hb).1,w0⟩;rintro n s3 ⟨i,σ3,H3,I3,st3,fr3,w3⟩;rcases turn i n σ3 H3 w3 with⟨stop,qn⟩|⟨go,N,hN,step⟩
 .refine wpAny_passesOwn hp (thn (T.done X rfl rfl rfl hc i pins s3 σ3 H3 X.xe I3 (stat fr3) st3 stop) fun r s4 ⟨hr,I4⟩=>?_);subst hr;exact wpAny_execs_nil ⟨σ3,H3,I4,qn⟩
 .refine wpAny_passesOwn hp (thn (T.item X rfl rfl rfl hc i pins s3 σ3 H3 X.xe I3 (stat fr3) st3 go) fun r s4 ⟨u,hr,h4⟩=>?_);subst hr;refine wpAny_passesOwn hp (thn h4 fun _ s5 ⟨x,H5,I5,r5,y5,st5,fr5⟩=>?_);have I5':=I5.pinned (stat fr5) (T.obj _ _ st5);refine wpAny_passesOwn hp (thn (hg _ s5 σ3 H5 x u _ I5' r5 (step x H5 y5)) fun _ s6 ⟨σ6,H6,I6,q6⟩=>?_);refine wpAny_passesOwn hp (thn (hb _ s6 σ6 H6 _ I6 q6) fun f s7 q7=>?_);have again:∀{σ7:St}{H7:Hp},Inv X (pins++nH fp s5.heap) σ7 H7 s7->N σ7 H7->∃m,m<n/\∃i σ' H',Inv X pins σ' H' s7/\tn i s7.heap/\(∀b∈fp,H' b=none)/\W i m σ' H':=fun {σ7 H7} I7 n7=>by
   obtain⟨m',hm,w7⟩:=hN σ7 H7 n7;refine⟨m',hm,i+1,σ7,H7,I7.unpinned,T.keep _ _ _ st5 fun b hb o e=>(I7.pin (b,o) (List.mem_append_right _ (List.mem_append_right _ (fC hb e)))).1,fun b hb=>?_,w7⟩;obtain⟨o,e,d⟩:=T.obj _ _ st5 b hb;exact(I7.pin (b,o) (List.mem_append_right _ (List.mem_append_right _ (fC hb e)))).2.1
  cases f with
  |next=>obtain⟨σ7,H7,I7,n7⟩:=q7;exact again I7 n7
  |cont=>obtain⟨σ7,H7,I7,n7⟩:=q7;exact again I7 n7
  |brk=>obtain⟨σ7,H7,I7,q7⟩:=q7;exact⟨σ7,H7,I7.unpinned,q7⟩
  |ret v=>obtain⟨x7,σ7,H7,I7,r7,q7⟩:=q7;exact⟨x7,σ7,H7,I7.unpinned,r7,q7⟩
end
abbrev R2:=V->V->Hp->VK->Prop
def OpR(X:Cx)(f:Value->Value->Sem Value)(r:R2):Prop :=
 ∀(pins:List (Addr×Obj)) (s:Shared) (σ:St) (H:Hp) (x y:V) (v u:Value) (Q:VK),Inv X pins σ H s->RelV x v->RelV y u->r x y H Q ->
  wpAny (model X.prog X.w) X.A (f v u) (EP X pins σ Q) X.xe s
def UnR(X:Cx)(f:Value->Sem Value)(r:V->Hp->VK->Prop):Prop :=
 ∀(pins:List (Addr×Obj)) (s:Shared) (σ:St) (H:Hp) (x:V) (v:Value) (Q:VK),Inv X pins σ H s->RelV x v->r x H Q ->
  wpAny (model X.prog X.w) X.A (f v) (EP X pins σ Q) X.xe s
def dn(X:Cx)(f:Value)(r:List V->Hp->VK->Prop):Prop :=
 ∀(pins:List (Addr×Obj)) (s:Shared) (σ:St) (H:Hp) (xs:List V) (us:List Value) (Q:VK),Inv X pins σ H s->Vals xs us->r xs H Q ->
  wpAny (model X.prog X.w) X.A (call f us) (EP X pins σ Q) X.xe s
def tOp(r:R2)(ta tb:TE):TE:=fun σ H Q=>ta σ H fun x H1=>tb σ H1 fun y H2=>r x y H2 Q
def tUn(r:V->Hp->VK->Prop)(ta:TE):TE:=fun σ H Q=>ta σ H fun x H1=>r x H1 Q
def rI(C:Int->Int->Prop)(g:Int->Int->V):R2:=fun x y H Q=>∃i j,x = .int i/\y = .int j/\C i j/\Q (g i j) H
def rI0(g:Int->Int->V):R2:=fun x y H Q=>∃i j,x = .int i/\y = .int j/\Q (g i j) H
def rU(g:Int->V):V->Hp->VK->Prop:=fun x H Q=>∃i,x = .int i/\Q (g i) H
section
variable {X:Cx}{a b c:Expr}{ta tb tc:TE}{pos:Pos}
theorem binT(ha:PE X a ta)(hb:PE X b tb){s:Shared}{R:V->V->Hp->Prop}(I:Inv X pins σ H s)
  (h:ta σ H fun x H1=>tb σ H1 fun y H2=>R x y H2) 
  (hf:∀v u s2 x y H2,Inv X pins σ H2 s2->RelV x v->RelV y u->R x y H2->wpAny (model X.prog X.w) X.A (f v u) Q X.xe s2) :
  wpAny (model X.prog X.w) X.A (eval a X.env) (fun v s₁=>wpAny (model X.prog X.w) X.A (eval b X.env) (fun u s₂=>wpAny (model X.prog X.w) X.A (f v u) Q X.xe s₂) X.xe s₁) X.xe s:=by
 refine thn (ha pins s σ H _ I h) fun v s1 ⟨x,H1,I1,r1,q1⟩=>?_;refine thn (hb pins s1 σ H1 _ I1 q1) fun u s2 ⟨y,H2,I2,r2,q2⟩=>?_;exact hf v u s2 x y H2 I2 r1 r2 q2
theorem Jz{op:Operator}(ho:OpR X (binaryOp op) r)(ha:PE X a ta)(hb:PE X b tb):PE X (.BinOp a op b pos) (tOp r ta tb):=by
 intro pins s σ H Q I h;exact wpAny_BinOp (binT ha hb I h fun v u s2 x y H2 I2 rx ry q=>ho pins s2 σ H2 x y v u Q I2 rx ry q)
theorem JV{op:UnaryOp}{r:V->Hp->VK->Prop}(ho:UnR X (unaryOp op) r)(ha:PE X a ta):PE X (.UnaryOp op a pos) (tUn r ta):=by
 intro pins s σ H Q I h;exact UnaryOp_ (thn (ha pins s σ H _ I h) fun v s1 ⟨x,H1,I1,r1,q1⟩=>ho pins s1 σ H1 x v Q I1 r1 q1)
theorem opI{C:Int->Int->Prop}
  (rule:∀(i j:Int) (t u:Tok) (s:Shared) (Q:Value->Shared->Prop) (E:Value->Shared->Prop),C i j->Q (.int (g i j) s.toks) {s with toks:=s.toks+1}->wpAny (model X.prog X.w) X.A (f (.int i t) (.int j u)) Q E s) :
  OpR X f (rI C fun i j=>.int (g i j)):=by
 intro pins s σ H x y v u Q I rx ry h;obtain⟨i,j,rfl,rfl,hc,q⟩:=h;obtain⟨t,rfl⟩:=rx;obtain⟨t',rfl⟩:=ry;exact rule i j t t' s _ _ hc ⟨.int (g i j),H,I.tok _,⟨_,rfl⟩,q⟩
theorem opI0
  (rule:∀(i j:Int) (t u:Tok) (s:Shared) (Q:Value->Shared->Prop) (E:Value->Shared->Prop),Q (.int (g i j) s.toks) {s with toks:=s.toks+1}->wpAny (model X.prog X.w) X.A (f (.int i t) (.int j u)) Q E s) :
  OpR X f (rI0 fun i j=>.int (g i j)):=by
 intro pins s σ H x y v u Q I rx ry h;obtain⟨i,j,rfl,rfl,q⟩:=h;obtain⟨t,rfl⟩:=rx;obtain⟨t',rfl⟩:=ry;exact rule i j t t' s _ _ ⟨.int (g i j),H,I.tok _,⟨_,rfl⟩,q⟩
theorem opB0{g:Int->Int->Bool}
  (rule:∀(i j:Int) (t u:Tok) (s:Shared) (Q:Value->Shared->Prop) (E:Value->Shared->Prop),Q (.bool (g i j)) s->wpAny (model X.prog X.w) X.A (f (.int i t) (.int j u)) Q E s) :
  OpR X f (rI0 fun i j=>.bl (g i j)):=by
 intro pins s σ H x y v u Q I rx ry h;obtain⟨i,j,rfl,rfl,q⟩:=h;obtain⟨t,rfl⟩:=rx;obtain⟨t',rfl⟩:=ry;exact rule i j t t' s _ _ ⟨.bl (g i j),H,I,rfl,q⟩
def CPow(i j:Int):Prop:=0≤j/\j≤1000000/\i.natAbs<2^64
def CMul(i j:Int):Prop:=(-(2^64)<i/\i<2^64)\/(-(2^64)<j/\j<2^64)
theorem CMul.ok{i j:Int}(h:CMul i j):IntMulOk i j:=by
 rcases h with⟨h1,h2⟩|⟨h1,h2⟩
 .exact .of_left (intBits_le_64 h1 h2)
 .exact .of_right (intBits_le_64 h1 h2)
theorem Ib:OpR X (binaryOp .Add) (rI0 fun i j=>.int (i+j)):=opI0 fun _ _ _ _ _ _ _ q=>add_int q
theorem FW:OpR X (binaryOp .Mod) (rI (fun _ j=>0<j) fun i j=>.int (i%j)):=opI fun i j _ _ _ _ _ hc q=>by
 have h1:(0:Int)<j:=hc;exact mod_int' (by omega) (by rw[Int.fmod_eq_emod_of_nonneg i (by omega)];exact q)
theorem Fe:OpR X (binaryOp .Pow) (rI CPow fun i j=>.int (i^j.toNat)):=opI fun _ _ _ _ _ _ _ hc q=>pow_int_small hc.1 hc.2.1 hc.2.2 q
theorem unI{f:Value->Sem Value}{g:Int->Int}
  (rule:∀(i:Int) (t:Tok) (s:Shared) (Q:Value->Shared->Prop) (E:Value->Shared->Prop),Q (.int (g i) s.toks) {s with toks:=s.toks+1}->wpAny (model X.prog X.w) X.A (f (.int i t)) Q E s) :
  UnR X f (rU fun i=>.int (g i)):=by
 intro pins s σ H x v Q I rx h;obtain⟨i,rfl,q⟩:=h;obtain⟨t,rfl⟩:=rx;exact rule i t s _ _ ⟨.int (g i),H,I.tok _,⟨_,rfl⟩,q⟩
theorem Fh:UnR X (unaryOp .USub) (rU fun i=>.int (-i)):=unI fun _ _ _ _ _ q=>neg_int q
end
def scal:V->V->Bool
 | .non,.non=>true | .non,.int _=>true | .int _,.non=>true | .non,.bl _=>true | .bl _,.non=>true | .non,.str _=>true | .str _,.non=>true
 | .int _,.int _=>true | .bl _,.bl _=>true | .str _,.str _=>true | .byt _,.byt _=>true
 | .int _,.str _=>true | .str _,.int _=>true | .bl _,.str _=>true | .str _,.bl _=>true
 |_,_=>false
def rEq:R2:=fun x y H Q=>scal x y=true/\Q (.bl (decide (x=y))) H
def rNe:R2:=fun x y H Q=>scal x y=true/\Q (.bl (!decide (x=y))) H
theorem uI{i j:Int}:decide (V.int i=V.int j)=(i==j):=by
 rw[Bool.eq_iff_iff];simp
theorem Ah{i j:Bool}:decide (V.bl i=V.bl j)=(i==j):=by
 rw[Bool.eq_iff_iff];simp
theorem lP{i j:Str}:decide (V.str i=V.str j)=(i==j):=by
 rw[Bool.eq_iff_iff];simp
theorem uZ{i j:Array UInt8}:decide (V.byt i=V.byt j)=(i.toList==j.toList):=by
 rw[Bool.eq_iff_iff];cases i;cases j;simp
section
variable {X:Cx}{a b c:Expr}{ta tb tc:TE}{pos:Pos}
theorem bm{s:Shared}{Q:VK}{k k':Bool}(I:Inv X pins σ H s)(q:Q (.bl k) H)(e:k=k'):EP X pins σ Q (.bool k') s:=by
 subst e;exact⟨.bl k,H,I,rfl,q⟩
theorem Ls:OpR X (compareOp .Eq) rEq:=by
 intro pins s σ H x y v u Q I rx ry h;obtain⟨hs,q⟩:=h
 cases x with
 |non =>
  cases rx
  cases y with
  |non=>cases ry;exact PySem.EqNone.eq_none_none (bm I q (by simp))
  |bl j=>cases ry;exact PySem.EqNone.eq_none_bool (bm I q (by simp))
  |int j=>obtain⟨t',rfl⟩:=ry;exact PySem.EqNone.eq_none_int (bm I q (by simp))
  |str j=>obtain⟨t',rfl⟩:=ry;exact PySem.EqNone.eq_none_str (bm I q (by simp))
  |_=>exact absurd (show false=true from hs) Bool.false_ne_true
 |bl i =>
  cases rx
  cases y with
  |non=>cases ry;exact PySem.EqNone.eq_bool_none (bm I q (by simp))
  |bl j=>cases ry;exact eq_bool (bm I q Ah)
  |str j=>obtain⟨t',rfl⟩:=ry;exact PySem.EqMixed.eq_bool_str (bm I q (by simp))
  |_=>exact absurd (show false=true from hs) Bool.false_ne_true
 |int i =>
  obtain⟨t,rfl⟩:=rx
  cases y with
  |non=>cases ry;exact PySem.EqNone.eq_int_none (bm I q (by simp))
  |int j=>obtain⟨t',rfl⟩:=ry;exact eq_int (bm I q uI)
  |str j=>obtain⟨t',rfl⟩:=ry;exact PySem.EqMixed.eq_int_str (bm I q (by simp))
  |_=>exact absurd (show false=true from hs) Bool.false_ne_true
 |str i =>
  obtain⟨t,rfl⟩:=rx
  cases y with
  |non=>cases ry;exact PySem.EqNone.eq_str_none (bm I q (by simp))
  |bl j=>cases ry;exact PySem.EqMixed.eq_str_bool (bm I q (by simp))
  |int j=>obtain⟨t',rfl⟩:=ry;exact PySem.EqMixed.eq_str_int (bm I q (by simp))
  |str j=>obtain⟨t',rfl⟩:=ry;exact eq_str (bm I q lP)
  |_=>exact absurd (show false=true from hs) Bool.false_ne_true
 |byt i =>
  obtain⟨t,rfl⟩:=rx
  cases y with
  |byt j=>obtain⟨t',rfl⟩:=ry;exact PySem.W.eq_bytes (bm I q uZ)
  |_=>exact absurd (show false=true from hs) Bool.false_ne_true
 |_=>cases y<;>exact absurd (show false=true from hs) Bool.false_ne_true
theorem Jx:OpR X (compareOp .NotEq) rNe:=by
 intro pins s σ H x y v u Q I rx ry h;obtain⟨hs,q⟩:=h
 cases x with
 |non =>
  cases rx
  cases y with
  |non=>cases ry;exact PySem.EqNone.ne_none_none (bm I q (by simp))
  |bl j=>cases ry;exact PySem.EqNone.ne_none_bool (bm I q (by simp))
  |int j=>obtain⟨t',rfl⟩:=ry;exact PySem.EqNone.ne_none_int (bm I q (by simp))
  |str j=>obtain⟨t',rfl⟩:=ry;exact PySem.EqNone.ne_none_str (bm I q (by simp))
  |_=>exact absurd (show false=true from hs) Bool.false_ne_true
 |bl i =>
  cases rx
  cases y with
  |non=>cases ry;exact PySem.EqNone.ne_bool_none (bm I q (by simp))
  |bl j=>cases ry;exact ne_bool (bm I q (congrArg not Ah))
  |str j=>obtain⟨t',rfl⟩:=ry;exact PySem.EqMixed.ne_bool_str (bm I q (by simp))
  |_=>exact absurd (show false=true from hs) Bool.false_ne_true
 |int i =>
  obtain⟨t,rfl⟩:=rx
  cases y with
  |non=>cases ry;exact PySem.EqNone.ne_int_none (bm I q (by simp))
  |int j=>obtain⟨t',rfl⟩:=ry;exact ne_int (bm I q (congrArg not uI))
  |str j=>obtain⟨t',rfl⟩:=ry;exact PySem.EqMixed.ne_int_str (bm I q (by simp))
  |_=>exact absurd (show false=true from hs) Bool.false_ne_true
 |str i =>
  obtain⟨t,rfl⟩:=rx
  cases y with
  |non=>cases ry;exact PySem.EqNone.ne_str_none (bm I q (by simp))
  |bl j=>cases ry;exact PySem.EqMixed.ne_str_bool (bm I q (by simp))
  |int j=>obtain⟨t',rfl⟩:=ry;exact PySem.EqMixed.ne_str_int (bm I q (by simp))
  |str j=>obtain⟨t',rfl⟩:=ry;exact ne_str (bm I q (congrArg not lP))
  |_=>exact absurd (show false=true from hs) Bool.false_ne_true
 |byt i =>
  obtain⟨t,rfl⟩:=rx
  cases y with
  |byt j=>obtain⟨t',rfl⟩:=ry;exact PySem.W.ne_bytes (bm I q (congrArg not uZ))
  |_=>exact absurd (show false=true from hs) Bool.false_ne_true
 |_=>cases y<;>exact absurd (show false=true from hs) Bool.false_ne_true
theorem JR:OpR X (compareOp .Lt) (rI0 fun i j=>.bl (decide (i<j))):=opB0 fun _ _ _ _ _ _ _ q=>lt_int q
theorem JQ:OpR X (compareOp .Gt) (rI0 fun i j=>.bl (decide (j<i))):=opB0 fun _ _ _ _ _ _ _ q=>gt_int q
theorem JO:OpR X (compareOp .GtE) (rI0 fun i j=>.bl (decide (j≤i))):=opB0 fun _ _ _ _ _ _ _ q=>ge_int q
theorem BQ:OpR X (compareOp .IsNot) (fun x y H Q=>y = .non/\Q (.bl (!decide (x = .non))) H):=by
 intro pins s σ H x y v u Q I rx ry h;obtain⟨rfl,q⟩:=h;cases ry;refine isnot_none_gen (bm I q ?_)
 cases x<;>first
  |(cases rx;rfl)
  |(obtain⟨t,rfl⟩:=rx;rfl)
theorem az(b:Expr)(h:op≠.In:=by decide)(h2:op≠.NotIn:=by decide):behindInMarks op b=false:=by
 have e1:(op==CmpOp.In)=false:=by cases op<;>first|rfl|exact absurd rfl h
 have e2:(op==CmpOp.NotIn)=false:=by cases op<;>first|rfl|exact absurd rfl h2
 cases b<;>simp[behindInMarks,e1,e2]
theorem Ci(ho:OpR X (compareOp op) r)(ha:PE X a ta)(hb:PE X b tb)(hm:behindInMarks op b=false):PE X (.Compare a [op] [b] pos) (tOp r ta tb):=by
 intro pins s σ H Q I h;exact wpAny_Compare1 (binT ha hb I h fun v u s2 x y H2 I2 rx ry q=>ho pins s2 σ H2 x y v u Q I2 rx ry q) hm
def D9(t:TE):TT:=fun σ H Q=>t σ H fun x H'=>∃k,x = .bl k/\Q k H'
theorem Da(ho:OpR X (compareOp op) r)(ha:PE X a ta)(hb:PE X b tb)(hm:behindInMarks op b=false):PT X (.Compare a [op] [b] pos) (D9 (tOp r ta tb)):=by
 intro pins s σ H Q I h;refine wpAny_isTrue_Compare1 (thn (ha pins s σ H _ I h) fun v s1 ⟨x,H1,I1,r1,q1⟩=>thn (hb pins s1 σ H1 _ I1 q1) fun u s2 ⟨y,H2,I2,r2,q2⟩ =>
  thn (ho pins s2 σ H2 x y v u _ I2 r1 r2 q2) fun c s3 ⟨z,H3,I3,r3,k,e,q3⟩=>?_) hm
 subst e;cases r3;exact wpAny_truthy_bool ⟨H3,I3,q3⟩
theorem kJ:(sizeLine:Nat)<2^63:=by rw[sizeLine_eq];decide
theorem sR:OpR X (binaryOp .Add) (fun x y H Q=>∃i j,x = .str i/\y = .str j/\i.length+j.length≤sizeLine/\Q (.str (i++j)) H):=by
 intro pins s σ H x y v u Q I rx ry h;obtain⟨i,j,rfl,rfl,hz,q⟩:=h;obtain⟨t,rfl⟩:=rx;obtain⟨t',rfl⟩:=ry;exact add_str (fun t' tk=>⟨.str (i++j),H,I.tok _,⟨_,rfl⟩,q⟩) hz
theorem sI{x:V}(r:Vals [x] us):∃u,us=[u]/\RelV x u:=by
 cases r with
 |cons r1 r2=>cases r2;exact⟨_,rfl,r1⟩
theorem yk:dn X (.builtin "abs") (fun xs H Q=>∃i,xs=[.int i]/\Q (.int (if i<0 then -i else i)) H):=by
 intro pins s σ H xs us Q I r h;obtain⟨i,rfl,q⟩:=h;obtain⟨u,rfl,t,rfl⟩:=sI r;exact call_abs_int fun u tk=>⟨.int (if i<0 then -i else i),H,I.tok _,⟨_,rfl⟩,q⟩
theorem mz:dn X (.type "int") (fun xs H Q=>(∃i,xs=[.int i]/\Q (.int i) H)\/∃k,xs=[.bl k]/\Q (.int (if k then 1 else 0)) H):=by
 intro pins s σ H xs us Q I r h;rcases h with⟨i,rfl,q⟩|⟨k,rfl,q⟩
 .obtain⟨u,rfl,t,rfl⟩:=sI r;exact call_int_int ⟨.int i,H,I,⟨_,rfl⟩,q⟩
 .obtain⟨u,rfl,r1⟩:=sI r;cases r1;exact call_int_bool ⟨.int (if k then 1 else 0),H,I.tok _,⟨_,rfl⟩,q⟩
end
theorem RelO.some_of{o:Option Value}(r:RelO (some v) o):∃u,o=some u/\RelV v u:=by
 cases o with
 |none=>exact(show False from r).elim
 |some u=>exact⟨u,rfl,r⟩
theorem RelO.none_of{o:Option Value}(r:RelO none o):o=none:=by
 cases o with
 |none=>rfl
 |some u=>exact(show False from r).elim
structure Room(k:Nat)(A:Around):Prop where
 hd:A.handled=none
 dp:A.depth+3*k+5<recursionLimit
 un:A.units+16*k+200<cLine
 gd:A.guards=some []
theorem Room.mono{k:Nat}(r:Room k A)(h:j≤k):Room j A:=⟨r.hd,by have:=r.dp;omega,by have:=r.un;omega,r.gd⟩
theorem Room.deeper{k:Nat}(r:Room (k+1) A)(env:Env):Room k (A.deeper env) :=
 ⟨r.hd,by have:=r.dp;show A.depth+1+3*k+5<_;omega,by have:=r.un;show A.units+3+16*k+200<_;omega,r.gd⟩
theorem Room.depth{k:Nat}(r:Room k A):A.depth<recursionLimit:=by have:=r.dp;omega
theorem Room.units{k:Nat}(r:Room k A):A.units+64<cLine:=by have:=r.un;omega
def tNil:TA:=fun _ H Q=>Q [] H
def Kg(ta:TE)(tr:TA):TA:=fun σ H Q=>ta σ H fun x H1=>tr σ H1 fun xs H2=>Q (x::xs) H2
section
variable {X:Cx}{e:Expr}{es:List Expr}{te:TE}{t:TA}{pos:Pos}
theorem D7:PA X [] tNil:=fun _ _ _ _ H Q I h=>Calls.spliced_nil ⟨[],H,I,.nil,h⟩
theorem BJ(ha:PE X e te)(hr:PA X es t)(hs:starEach (e::es) X.env=(false,eval e X.env)::starEach es X.env:=by rfl):PA X (e::es) (Kg te t):=by
 intro pos pins s σ H Q I h;rw[hs];show wpAny _ _ (spliced ((false,eval e X.env)::backTo pos (starEach es X.env))) _ _ s;refine Calls.spliced_cons (thn (ha pins s σ H _ I h) fun u s1 ⟨x,H1,I1,r1,q1⟩=>?_);exact thn (hr pos pins s1 σ H1 _ I1 q1) fun us s2 ⟨xs,H2,I2,r2,q2⟩=>⟨x::xs,H2,I2,.cons r1 r2,q2⟩
def tTup(t:TA):TE:=fun σ H Q=>t σ H fun xs H1=>xs.length≤sizeLine/\∀p,H1 p=none->Q (.ref p) (upd H1 p (.tup xs))
def tLst(t:TA):TE:=fun σ H Q=>t σ H fun xs H1=>xs.length≤sizeLine/\∀p,H1 p=none->Q (.ref p) (upd H1 p (.lst xs))
theorem IX{x1}(h:PA X es t):PE X (.Tuple es x1 pos) (tTup t):=by
 intro pins s σ H Q I hq;refine wpAny_Tuple_spliced (thn (h pos pins s σ H _ I hq) fun us s1 ⟨xs,H1,I1,r,z,q⟩=>⟨by rw[<-r.length];exact z,?_⟩);have hf:H1 s1.heap.objs.size=none:=I1.hok.fresh (Nat.le_refl _);refine⟨.ref s1.heap.objs.size,upd H1 s1.heap.objs.size (.tup xs),I1.laid (t':=s1.toks) (fun b u e=>Heap.get?_push_of_some _ e) (Nat.le_refl _) ?_,rfl,q _ hf⟩;exact⟨z,us,r,⟨_,Heap.get?_push_size _ rfl,rfl,rfl,_,rfl⟩⟩
theorem IY(h:PA X es t):PE X (.List es pos) (tLst t):=by
 intro pins s σ H Q I hq;refine wpAny_List_spliced (thn (h pos pins s σ H _ I hq) fun us s1 ⟨xs,H1,I1,r,z,q⟩=>⟨by rw[<-r.length];exact z,?_⟩);have hf:H1 s1.heap.objs.size=none:=I1.hok.fresh (Nat.le_refl _);refine⟨.ref s1.heap.objs.size,upd H1 s1.heap.objs.size (.lst xs),I1.laid (t':=s1.toks) (fun b u e=>Heap.get?_push_of_some _ e) (Nat.le_refl _) ?_,rfl,q _ hf⟩;exact⟨z,us,0,r,Heap.get?_push_size _ rfl⟩
end
abbrev Sp:=List V->Hp->VK->XK->Prop
abbrev CXT:=List Env->Hp->Shared->XK->Value->Shared->Prop
structure Env0(P:Program)(w:World)(K:PySem.W.Frag)(mg:Str->Option Value)(base:Heap)(A:Around)(outer:List Env)(s:Shared)(H:Hp):Prop where
 frames:A.frames=some outer
 mod:Mod K mg base
 bs:∀b o,base.get? b=some o->s.heap.get? b=some o/\H b=none
 bsz:base.objs.size≤s.heap.objs.size
 funs:s.heap.FunFrames base outer
 frf:∀b∈frs outer,H b=none
 hok:HOk P w H s.heap
 bare:AllBare s.gens
def CE(outer:List Env)(P:Program)(w:World)(H:Hp)(s:Shared)(Q:VK)(u:Value)(s':Shared):Prop :=
 ∃v H',s'.os=s.os/\AllBare s'.gens/\Un (frs outer) [] H H' s.heap s'.heap/\HOk P w H' s'.heap/\RelV v u/\Q v H'
def CR(CX:CXT)(outer:List Env)(P:Program)(w:World)(H:Hp)(s:Shared)(Q:VK)(E:XK)(r:Result)(s':Shared):Prop :=
 match r with
 | .ok (.ret u)=>CE outer P w H s Q u s'
 | .ok _=>False
 | .error e=>CX outer H s E e s'
structure FnOk(P:Program)(w:World)(K:PySem.W.Frag)(mg:Str->Option Value)(base:Heap)(CX:CXT)(k:Nat)(f:Addr)(fd:FuncData)(ps:List Str)(sp:Sp):Prop where
 len:∀vs H Q E,sp vs H Q E->vs.length=ps.length
 run:∀(A:Around) (outer:List Env) (s:Shared) (H:Hp) (args:Args) (us:List Value) (vs:List V) (Q:VK) (E:XK),Room k A->Env0 P w K mg base A outer s H->BindsTo s fd args (ps.zip us)->Vals vs us->sp vs H Q E ->
  codeAny (model P w) A (.call (.ref f) args) (CR CX outer P w H s Q E) s
section
variable {X:Cx}{pins:List (Addr×Obj)}{σ:St}{H:Hp}{s s':Shared}
theorem Inv.env0(I:Inv X pins σ H s):Env0 X.prog X.w X.K X.mg X.base X.A X.stack s H :=
 ⟨I.ok.frames,I.ok.mod,I.bs,Nat.le_trans I.ok.bsz I.sz,I.stack,I.stkFree,I.hok,I.bare⟩
theorem Inv.after{Q:VK}(I:Inv X pins σ H s)(h:CE X.stack X.prog X.w H s Q u s'):EP X pins σ Q u s':=by
 obtain⟨v,H',os,bare,un,hok,r,q⟩:=h;obtain⟨hh,g,d,t,os'⟩:=s';obtain rfl:os'=s.os:=os;exact⟨v,H',I.call (h':=hh) (g':=g) (d':=d) (t':=t) (ch:=[]) un hok bare (fun b z=>absurd z (by simp)),r,q⟩
end
def GF(sp:Sp)(dvs:List V)(E:XK)(t:TA):TE:=fun σ H Q=>t σ H fun vs H1=>sp (vs++dvs) H1 Q E
def Binds(K:PySem.W.Frag)(fd:FuncData)(ps:List Str)(ds:List Value):Prop :=
 ∀(s:Shared) (us:List Value),K.In s.heap->(us++ds).length=ps.length->BindsTo s fd ⟨us,[]⟩ (ps.zip (us++ds))
theorem Binds.all{fd:FuncData}(h:∀us:List Value,us.length=ps.length->bindArgs fd ⟨us,[]⟩=pure (ps.zip us)):Binds K fd ps []:=fun s us _ hl=>by
 rw[List.append_nil]at hl⊢;exact .of_eq (h us hl)
def qF(CX:CXT)(X:Cx)(E:XK):Prop:=∀(pins:List (Addr×Obj)) (σ:St) (H:Hp) (s:Shared) (e:Value) (s':Shared),Inv X pins σ H s->CX X.stack H s E e s'->X.xe e s'
section
variable {X:Cx}{CX:CXT}{k:Nat}{f C:Addr}{fd:FuncData}{ps:List Str}{sp:Sp}{dvs:List V}{ds:List Value}{E:XK}{x m:Str}{p pos apos:Pos}{e o:Expr}{es:List Expr}{ta:TE}{t:TA}
theorem Iy{s:Shared}{Q:VK}{vs:List V}(F:FnOk X.prog X.w X.K X.mg X.base CX k f fd ps sp)(hr:Room k X.A)(hb:Binds X.K fd ps ds)(hd:Vals dvs ds)(hx:qF CX X E)
  (I:Inv X pins σ H s) (r:Vals vs us) (h:sp (vs++dvs) H Q E):wpAny (model X.prog X.w) X.A (call (.ref f) us) (EP X pins σ Q) X.xe s:=by
 have r2:Vals (vs++dvs) (us++ds):=r.append hd;have hl:(us++ds).length=ps.length:=by rw[<-r2.length];exact F.len _ _ _ _ h
 refine wpAny_call (codeAny_mono (F.run X.A X.stack s H ⟨us,[]⟩ (us++ds) (vs++dvs) Q E hr I.env0 (hb s us I.kIn hl) r2 h) fun r s' hq=>?_)
 cases r with
 |error e=>exact hx pins σ H s e s' I hq
 |ok fl =>
  cases fl with
  |ret u=>exact I.after hq
  |next=>exact False.elim hq
  |brk=>exact False.elim hq
  |cont=>exact False.elim hq
theorem Bg(F:FnOk X.prog X.w X.K X.mg X.base CX k f fd ps sp)(hr:Room k X.A)(hg:Gl X x)(hm:X.mg x=some (.ref f))(hk:PySem.W.keepIn X.K (.ref f)=true)(hb:Binds X.K fd ps ds)(hd:Vals dvs ds)(hx:qF CX X E)
  (ha:PA X (e::es) t) (hdb:(x==("__debug__" : Str))=false:=by decide) (he:starEach (e::es) X.env=(false,eval e X.env)::starEach es X.env:=by rfl) (hpl:(backTo pos (starEach es X.env)).any (·.1)=false:=by rfl) :
  PE X (.Call (.Name x p) (e::es) [] pos) (GF sp dvs E t):=by
 intro pins s σ H Q I h;refine wpAny_Call_Name_kw (vq I hg hm ?_ hdb);refine PySem.W.callWith_K (h₀:=X.base) I.ok.mod.kin hk (thn (ha pos pins s σ H _ I h) fun us s1 ⟨vs,H1,I1,r,q⟩=>⟨I1.kIn,?_⟩) he hpl;exact Iy F hr hb hd hx I1 r q
end
structure au(N P:List Str)(sc:Scope):Prop where
 kind:sc.kind = .function
 co:sc.isCoroutine=false
 gen:sc.isGenerator=false
 nd:N.Nodup
 pre:N.take P.length=P
 par:∀x∈P,sc.names.lookup x=some .local\/sc.names.lookup x=some .cell
 nofree:∀y∈sc.names,y.2≠.free
theorem oH{kindOf:Str->Option NameKind}{x:Str}:∀{binds:List (Str×Value)}{m:Str->Option Value},(∀v,(x,v)∉binds)->bindL kindOf binds m x=m x
 |[],_,_=>rfl
 | (n,v)::r,m,h=>by
  unfold bindL;rw[oH fun w hw=>h w (List.mem_cons_of_mem _ hw)];split
  .have:x≠n:=by rintro rfl;exact h v List.mem_cons_self
   simp[this]
  .rfl
theorem on{kindOf:Str->Option NameKind}{x:Str}:∀{binds:List (Str×Value)}{m:Str->Option Value},(∀v,(x,v)∉binds)->bindC kindOf binds m x=m x
 |[],_,_=>rfl
 | (n,v)::r,m,h=>by
  unfold bindC;rw[on fun w hw=>h w (List.mem_cons_of_mem _ hw)];split
  .rfl
  .have:x≠n:=by rintro rfl;exact h v List.mem_cons_self
   simp[this]
theorem nc{kindOf:Str->Option NameKind}{x:Str}{v:Value}:∀{P:List Str}{vs:List Value}{i:Nat}{m:Str->Option Value},P.Nodup->P[i]?=some x->vs[i]?=some v->kindOf x=some .local ->
  bindL kindOf (P.zip vs) m x=some v
 |[],_,_,_,_,h,_,_=>by simp at h
 |_::_,[],_,_,_,_,h,_=>by simp at h
 |p::P,w::vs,0,m,nd,h1,h2,hk=>by
  simp at h1 h2;subst h1;subst h2;show bindL kindOf ((p,w)::P.zip vs) m p=_;unfold bindL;rw[oH fun v hv=>(List.nodup_cons.mp nd).1 (List.of_mem_zip hv).1,if_pos hk];simp
 |p::P,w::vs,i+1,m,nd,h1,h2,hk=>by
  show bindL kindOf ((p,w)::P.zip vs) m x=_;unfold bindL;exact nc (i:=i) (List.nodup_cons.mp nd).2 (by simpa using h1) (by simpa using h2) hk
theorem mR{kindOf:Str->Option NameKind}{x:Str}{v:Value}:∀{P:List Str}{vs:List Value}{i:Nat}{m:Str->Option Value},P.Nodup->P[i]?=some x->vs[i]?=some v->kindOf x≠some .local ->
  bindC kindOf (P.zip vs) m x=some v
 |[],_,_,_,_,h,_,_=>by simp at h
 |_::_,[],_,_,_,_,h,_=>by simp at h
 |p::P,w::vs,0,m,nd,h1,h2,hk=>by
  simp at h1 h2;subst h1;subst h2;show bindC kindOf ((p,w)::P.zip vs) m p=_;unfold bindC;rw[on fun v hv=>(List.nodup_cons.mp nd).1 (List.of_mem_zip hv).1,if_neg hk];simp
 |p::P,w::vs,i+1,m,nd,h1,h2,hk=>by
  show bindC kindOf ((p,w)::P.zip vs) m x=_;unfold bindC;exact mR (i:=i) (List.nodup_cons.mp nd).2 (by simpa using h1) (by simpa using h2) hk
def start(N:List Str)(vs:List V):St:=vs.map some++List.replicate (N.length-vs.length) none
def cxOf(CX:CXT)(P:Program)(w:World)(K:PySem.W.Frag)(mg:Str->Option Value)(base:Heap)(N:List Str)(qual:Str)(scope:Scope)(f:Addr)(cd:Value)(A:Around)(outer:List Env)(s:Shared)(H:Hp)(E:XK):Cx where
 prog:=P
 w:=w
 K:=K
 mg:=mg
 base:=base
 A:=A.deeper (envOfC qual scope s.heap.objs.size f cd)
 N:=N
 s₀:=s
 H₀:=H
 env:=envOfC qual scope s.heap.objs.size f cd
 outer:=outer
 stack:=envOfC qual scope s.heap.objs.size f cd::outer
 ex:=[]
 calm:=true
 fn:=fun _=>true
 pn:=[]
 xe:=fun e s'=>wpAny (model P w) (A.deeper (envOfC qual scope s.heap.objs.size f cd)) (leaving (envOfC qual scope s.heap.objs.size f cd) e) (fun _ s''=>CX outer H s E e s'') (fun e' s''=>CX outer H s E e' s'') s'
theorem qu{sc:Scope}{n:Nat}(h:sc.names.lookup x=some .cell):∃c,(cellsFrom n sc.names []).lookup x=some c:=by
 have q:=PySem.W.cellsFrom_some sc.names n [] (.inl h);exact Option.isSome_iff_exists.mp q
theorem um{CX:CXT}{base:Heap}{qual:Str}{f:Addr}{cd:Value}{outer:List Env}{s s1:Shared}{E:XK}{vs:List V}
  (S:au N ps scope) (hd:A.handled=none) (e0:Env0 P w K mg base A outer s H) (hl:vs.length=ps.length) (r:Vals vs us)
  (x:InCallC s s.heap.objs.size (bindL (envOfC qual scope s.heap.objs.size f cd).kindOf (ps.zip us) fun _=>none) (cellsFrom (s.heap.objs.size+1) scope.names []) (bindC (envOfC qual scope s.heap.objs.size f cd).kindOf (ps.zip us) fun _=>none) s1) :
  Inv (cxOf CX P w K mg base N qual scope f cd A outer s H E) [] (start N vs) H s1:=by
 have hpl:ps.length≤N.length:=by have:=congrArg List.length S.pre;rw[List.length_take]at this;omega
 obtain⟨h1,tk,rfl,hk⟩:=x.done;have noA:∀b:Addr,b∉(cxOf CX P w K mg base N qual scope f cd A outer s H E).ex:=fun b z=>absurd (show b∈([]:List Addr)from z) (by simp);refine⟨⟨e0.mod,S.kind,rfl,rfl,Nat.le_refl _,fun y z c h1 h2=>?_,fun y hy=>?_,fun y c _ h=>?_,fun _=>hd,Around.frames_deeper e0.frames,.inr ⟨rfl,rfl⟩,fun b z=>absurd z (noA b),e0.bs,e0.bsz,fun b _ _=>noA b,fun b z=>absurd z (noA b),e0.funs,e0.frf⟩,
  rfl,e0.bare,Un.kept hk,⟨_,x.toInCall.ns,fun i y v h1 h2 h3=>?_⟩,fun y c h=>⟨_,x.cell y c h⟩,e0.hok.fresh (Nat.le_refl _),fun y c h=>?_,fun p hp=>absurd (show p∈([]:List (Addr×Obj))from hp) (by simp),e0.hok.kept hk,?_⟩
 .exact name_of_addr x.apart (PySem.mem_of_lookup h1) (PySem.mem_of_lookup h2)
 .have hy:scope.names.lookup y=some .cell\/scope.names.lookup y=some .free:=hy;rcases hy with hy|hy
  .exact qu hy
  .exact absurd rfl (S.nofree _ (PySem.mem_of_lookup hy))
 .exact Nat.le_of_lt (x.above y c (PySem.mem_of_lookup h))
 .have hi:i<vs.length:=by
   unfold start at h2
   by_cases hi:i<vs.length
   .exact hi
   .rw[List.getElem?_append_right (by simpa using hi)]at h2;rw[List.getElem?_replicate]at h2
    split at h2<;>cases h2
  have ha:vs[i]?=some v:=by
   unfold start at h2;rw[List.getElem?_append_left (by simpa using hi),List.getElem?_map]at h2
   cases e:vs[i]? with
   |none=>rw[e]at h2;cases h2
   |some a=>rw[e]at h2;cases h2;rfl
  obtain⟨u,hu,rv⟩:=r.get ha;have hp:ps[i]?=some y:=by
   rw[<-S.pre,List.getElem?_take_of_lt (by omega)];exact h1
  have ndP:ps.Nodup:=by rw[<-S.pre];exact S.nd.sublist (List.take_sublist _ _)
  refine⟨u,rv,?_⟩;rcases S.par y (List.mem_of_getElem? hp)with k|k
  .exact .inl ⟨k,nc ndP hp hu k⟩
  .obtain⟨c,e⟩:=qu (n:=s.heap.objs.size+1) k;refine .inr ⟨.inl k,c,e,?_⟩;have q:=x.cell y c e;rw[mR ndP hp hu (by show scope.names.lookup y≠_;rw[k];decide)]at q;exact q
 .exact e0.hok.fresh (Nat.le_of_lt (x.above y c (PySem.mem_of_lookup h)))
 .unfold start;show _=N.length;rw[List.length_append,List.length_map,List.length_replicate];omega
theorem K6{CX:CXT}{base:Heap}{k:Nat}{f:Addr}{name qual:Str}{params:Arguments}{dV kV doc pm cdv ct oc:Value}{an od:Option Addr}
  {osl:Array (Option Value)}{sp:Sp} (lk:K.lookup f=some ⟨oc,od,.func (PySem.W.fnOf name qual params body scope dV kV doc pm an cdv ct),osl⟩) (hcd:PySem.W.codeIn K cdv qual=true) (S:au N ps scope)
  (len:∀vs H Q E,sp vs H Q E->vs.length=ps.length)
  (hbody:∀(A:Around) (outer:List Env) (s:Shared) (H:Hp) (vs:List V) (Q:VK) (E:XK),Room k (A.deeper (envOfC qual scope s.heap.objs.size f cdv))->sp vs H Q E ->
   ∃t,PSs (cxOf CX P w K mg base N qual scope f cdv A outer s H E) body t/\t {nx:=fun _ H'=>Q .non H',rt:=Q} (start N vs) H) :
  FnOk P w K mg base CX (k+1) f (PySem.W.fnOf name qual params body scope dV kV doc pm an cdv ct) ps sp:=by
 refine⟨len,fun A outer s H args us vs Q E hr e0 hb r hsp=>?_⟩;have hl:=len _ _ _ _ hsp;have KX:K.In s.heap:=e0.mod.kin.keeps fun b o e=>(e0.bs b o e).1;have lim:s.heap.NoLimit:=e0.mod.nolimit.keeps fun b o e=>(e0.bs b o e).1;have hkind:∀y∈ps.zip us,scope.names.lookup y.1=some .local\/(scope.names.lookup y.1=some .cell/\((cellsFrom (s.heap.objs.size+1) scope.names []).lookup y.1).isSome=true):=fun⟨n,v⟩ hy=>by
  rcases S.par n (List.of_mem_zip hy).1 with q|q
  .exact .inl q
  .exact .inr ⟨q,PySem.W.cellsFrom_some _ _ _ (.inl q)⟩
 refine codeAny_call_function hr.depth (KX _ _ lk) rfl S.co S.gen rfl (PySem.W.codeRec_of KX hcd) (hb _ _ _ _ ?_);refine wpAny_newFunctionEnv_cells S.kind hkind fun env he s1 x=>?_;subst he;refine⟨lim.keeps x.toInCall.keep,codeAny_func ?_⟩;obtain⟨t,ht,hq⟩:=hbody A outer s H vs Q E (hr.deeper _) hsp;have I:Inv (cxOf CX P w K mg base N qual scope f cdv A outer s H E) [] (start N vs) H s1:=um S hr.hd e0 hl r x;refine wpAny_mono (ht [] s1 (start N vs) H _ I hq) (fun fl s' hs=>?_) fun e s' hs=>hs;have fin:∀{σ':St}{H':Hp}{v:V}{u:Value},Inv (cxOf CX P w K mg base N qual scope f cdv A outer s H E) [] σ' H' s'->RelV v u->Q v H'->CE outer P w H s Q u s' :=
  fun {σ' H' v u} J rv q=>⟨v,H',J.os,J.bare,J.base,J.hok,rv,q⟩
 cases fl with
 |ret u =>
  obtain⟨v,σ',H',J,rv,q⟩:=hs;exact fin J rv q
 |next =>
  obtain⟨σ',H',J,q⟩:=hs;exact fin (v:=V.non) (u:=Value.none) J rfl q
 |brk =>
  obtain⟨_,_,_,q⟩:=hs;exact False.elim q
 |cont =>
  obtain⟨_,_,_,q⟩:=hs;exact False.elim q
section
variable {X:Cx}{x:Str}{p pos:Pos}{e:Expr}{es:List Expr}{t:TA}{id T:String}{r:List V->Hp->VK->Prop}
def tCB(r:List V->Hp->VK->Prop)(t:TA):TE:=fun σ H Q=>t σ H fun vs H1=>r vs H1 Q
theorem yJ(hc:dn X (.builtin id) r)(hg:Gl X x)(hm:X.mg x=none)(hv:bootBuiltins x=some (.builtin id))(ha:PA X (e::es) t)(hn:x ≠ "__name__" :=by decide)(hdb:(x==("__debug__" : Str))=false:=by decide)
  (he:starEach (e::es) X.env=(false,eval e X.env)::starEach es X.env:=by rfl) (hpl:(backTo pos (starEach es X.env)).any (·.1)=false:=by rfl):PE X (.Call (.Name x p) (e::es) [] pos) (tCB r t):=by
 intro pins s σ H Q I h;refine wpAny_Call_Name_kw (nA I hg hm hv ?_ hn hdb);exact PyProof.Rows.callWith_builtin1 (thn (ha pos pins s σ H _ I h) fun us s1 ⟨vs,H1,I1,r1,q1⟩=>hc pins s1 σ H1 vs us Q I1 r1 q1) he hpl
theorem wr(hc:dn X (.type T) r)(hg:Gl X x)(hm:X.mg x=none)(hv:bootBuiltins x=some (.type T))(ha:PA X (e::es) t)(hn:x ≠ "__name__" :=by decide)(hdb:(x==("__debug__" : Str))=false:=by decide)
  (he:starEach (e::es) X.env=(false,eval e X.env)::starEach es X.env:=by rfl) (hpl:(backTo pos (starEach es X.env)).any (·.1)=false:=by rfl):PE X (.Call (.Name x p) (e::es) [] pos) (tCB r t):=by
 intro pins s σ H Q I h;refine wpAny_Call_Name_kw (nA I hg hm hv ?_ hn hdb);exact PyProof.Rows.callWith_type1 (thn (ha pos pins s σ H _ I h) fun us s1 ⟨vs,H1,I1,r1,q1⟩=>hc pins s1 σ H1 vs us Q I1 r1 q1) he hpl
end
end L2
namespace HT
open PySem PyProof.Rows
variable{Q:Value->Shared->Prop}{hi lo:Option Int}
section
variable {prog:Program}{w:World}{A:Around}{E:Value->Shared->Prop}{s:Shared}
theorem cat_tup{t b:Addr}{vs ws:List Value}(ht:IsTup s.heap t vs.toArray)(hb:IsTup s.heap b ws.toArray)(hv:vs≠[])
  (h1:ws=[]->Q (.ref t) s) (h2:ws≠[]->Q (.ref s.heap.objs.size) {s with heap:=s.heap.push {cls:=.type "tuple",data:=.seq (vs++ws).toArray} })
  (hsz:vs.length+ws.length≤sizeLine):wpAny (model prog w) A (binaryOp .Add (.ref t) (.ref b)) Q E s:=by
 obtain⟨⟨cls,dd,data,sl⟩,ho,hc,n,hd⟩:=id ht;obtain⟨⟨cls2,dd2,data2,sl2⟩,ho2,hc2,n2,hd2⟩:=id hb;simp only at hc hd hc2 hd2;subst hc hd hc2 hd2;have e:vs.toArray++ws.toArray=(vs++ws).toArray:=by simp
 by_cases hw:ws=[]
 .exact concat_meets ⟨_,ho,rfl⟩ ⟨_,ho2,rfl⟩ noFill_tuple_add seq_tuple_add PySem.F.slot_tuple_add PySem.F.entry_tuple_add (PySem.F.args_tuple_add_2 _ _)
   (tuple_addW1 t b vs.toArray ws.toArray n n2 dd dd2 sl sl2 (by simpa using hv) (by simp[hw])) ⟨ho,ho2,h1 hw⟩
 .refine concat_meets ⟨_,ho,rfl⟩ ⟨_,ho2,rfl⟩ noFill_tuple_add seq_tuple_add PySem.F.slot_tuple_add PySem.F.entry_tuple_add (PySem.F.args_tuple_add_2 _ _)
   (tuple_addW2 t b vs.toArray ws.toArray n n2 dd dd2 sl sl2 (by simpa using hv) (by simpa using hw) (by rw[List.size_toArray,List.size_toArray];exact hsz)) ⟨ho,ho2,?_⟩
  rw[e];exact h2 hw
def sIx(n d:Nat):Option Int->Nat
 |none=>d
 |some v=>if v<0 then(v+(n:Int)).toNat else min v.toNat n
theorem sIx_none(n d:Nat):sIx n d none=d:=rfl
theorem sIx_nat(n d k:Nat):sIx n d (some (k:Int))=min k n:=by
 show(if (k:Int)<0 then((k:Int)+(n:Int)).toNat else min (k:Int).toNat n)=min k n;rw[if_neg (by omega),Int.toNat_natCast]
theorem Gm(n d:Nat)(hd:d≤n)(o:Option Int):sIx n d o≤n:=by
 cases o with
 |none=>exact hd
 |some v =>
  show(if v<0 then(v+(n:Int)).toNat else min v.toNat n)≤n
  by_cases hv:v<0
  .rw[if_pos hv];omega
  .rw[if_neg hv];exact Nat.min_le_right _ _
theorem vZ(v:Int)(n d:Nat):(if v<0 then max (v+(n:Int)) 0 else min v (n:Int))=((sIx n d (some v):Nat):Int):=by
 show(if v<0 then max (v+(n:Int)) 0 else min v (n:Int))=(((if v<0 then(v+(n:Int)).toNat else min v.toNat n):Nat):Int)
 by_cases hv:v<0
 .simp only[if_pos hv];omega
 .simp only[if_neg hv];omega
theorem t5(lo hi:Option Int)(n:Nat):Builtin.Slice.sliceAdjust lo hi 1 (n:Int)=(((sIx n 0 lo:Nat):Int),((sIx n n hi:Nat):Int)):=by
 have h1:¬((1:Int)<0):=by omega
 unfold Builtin.Slice.sliceAdjust;simp only[h1,if_false];refine Prod.ext ?_ ?_
 .cases lo with
  |none=>rfl
  |some v=>exact vZ v n 0
 .cases hi with
  |none=>rfl
  |some v=>exact vZ v n n
theorem t7(i j:Nat):Builtin.Slice.slicePlaces (i:Int) (j:Int) 1=j-i:=by
 unfold Builtin.Slice.slicePlaces;have h1:(1:Int)>0:=by omega
 simp only[h1,if_true,Int.ediv_one]
 split<;>omega
theorem k7{v:Value}{o:Option Int}{Q:Option Int->Shared->Prop}(p:IsPart v o)(h:Q o s):wpAny (model prog w) A (Builtin.Slice.slicePartIndex v) Q E s:=by
 cases p with
 |none=>exact slicePart_none h
 |int i t=>exact slicePart_int h
theorem fe{sl:Addr}{vl vu:Value}{n:Nat}{Q:Int×Int×Nat->Shared->Prop}(hs:s.heap.IsSliceOf sl vl vu .none)(pl:IsPart vl lo)(pu:IsPart vu hi)
  (h:Q (((sIx n 0 lo:Nat):Int),1,sIx n n hi-sIx n 0 lo) s):wpAny (model prog w) A (Builtin.Slice.sliceApplied (.ref sl) (pure (n:Int))) Q E s:=by
 obtain⟨os,hos,hcs,hds⟩:=id hs;unfold Builtin.Slice.sliceApplied Builtin.Slice.sliceFields;refine wpAny_bind (wpAny_bind (wpAny_field hos hds (x:=vl) rfl (wpAny_bind (wpAny_field hos hds (x:=vu) rfl (wpAny_bind (wpAny_field hos hds (x:=.none) rfl (wpAny_pure ?_)))))));refine wpAny_bind (slicePart_none ?_);show wpAny _ _ (if ((1:Int)==0)=true then _ else _) _ _ s;rw[if_neg (by decide)];refine wpAny_bind (k7 pl (wpAny_bind (k7 pu (wpAny_bind (wpAny_pure ?_)))));show wpAny _ _ (match Builtin.Slice.sliceAdjust lo hi 1 (n:Int)with|(lo,hi)=>pure (lo,(1:Int),Builtin.Slice.slicePlaces lo hi 1)) _ _ s;rw[t5 lo hi n];show wpAny _ _ (pure (((sIx n 0 lo:Nat):Int),(1:Int),Builtin.Slice.slicePlaces ((sIx n 0 lo:Nat):Int) ((sIx n n hi:Nat):Int) 1)) _ _ s;rw[t7];exact wpAny_pure h
theorem y4(xs:Array Value)(i k:Nat):((List.range k).filterMap fun(m:Nat)=>xs[((i:Int)+(m:Int)*1).toNat]?).toArray=((xs.toList.drop i).take k).toArray:=by
 have e:(fun(m:Nat)=>xs[((i:Int)+(m:Int)*1).toNat]?)=fun m=>xs[i+m]?:=by
  funext m
  have:((i:Int)+(m:Int)*1).toNat=i+m:=by omega
  rw[this]
 rw[e];have:=pick_run xs i k;rw[List.filterMap_map]at this;have e2:((fun x=>xs[x]?)∘fun x=>i+x)=fun m=>xs[i+m]?:=rfl;rw[e2]at this;rw[this]
theorem getItem_tuple_cut{t sl:Addr}{items:Array Value}{vl vu:Value}(ht:IsTup s.heap t items)(hs:s.heap.IsSliceOf sl vl vu .none)(pl:IsPart vl lo)(pu:IsPart vu hi)
  (hw:¬(sIx items.size 0 lo=0/\sIx items.size items.size hi=items.size))
  (h:Q (.ref s.heap.objs.size) {s with heap:=s.heap.push {cls:=.type "tuple",data:=.seq ((items.toList.drop (sIx items.size 0 lo)).take (sIx items.size items.size hi-sIx items.size 0 lo)).toArray} })
  (hsz:items.size≤sizeLine):wpAny (model prog w) A (getItem (.ref t) (.ref sl)) Q E s:=by
 have htake:sizeOk (.seq ((items.toList.drop (sIx items.size 0 lo)).take (sIx items.size items.size hi-sIx items.size 0 lo)).toArray):=by
  show((items.toList.drop (sIx items.size 0 lo)).take (sIx items.size items.size hi-sIx items.size 0 lo)).toArray.size≤sizeLine;rw[List.size_toArray,List.length_take,List.length_drop,Array.length_toList];omega
 have hj:sIx items.size items.size hi≤items.size:=Gm _ _ (Nat.le_refl _) hi;obtain⟨os,hos,hcs,hds⟩:=id hs;have hTs:s.TypeIs (.ref sl) "slice" :=⟨os,hos,hcs⟩;unfold getItem
 try with_reducible refine wpAny_holding ?_
 first|refine wpAny_bind (wpAny_pure ?_)|skip
 refine wpAny_bind (wpAny_sequenceKey ht.typeIs (by decide) ?_);refine wpAny_bind (wpAny_callSpecial?_slot (name:=Str.ofString "__getitem__") ht.typeIs PyProof.Rows.slot_tuple_getitem
  (wpAny_call_entry PyProof.Rows.slot_tuple_getitem ht.typeIs entry_tuple_getitem ?_ (args_tuple_getitem _ _)))
 show wpAny _ _ (Builtin.Tuple.tupleItemsOf (.ref t) >>= _) _ _ s;refine wpAny_bind (tupleItemsOf_ ht ?_);refine wpAny_bind (wpAny_typeOf hTs ?_);rw[if_pos (by decide)];refine wpAny_bind (fe hs pl pu ?_);have hno:¬((((sIx items.size 0 lo:Nat):Int)==0&&(1:Int)==1&&(sIx items.size items.size hi-sIx items.size 0 lo)==items.size)=true):=by
  intro q;rw[Bool.and_eq_true,Bool.and_eq_true]at q;have q1:((sIx items.size 0 lo:Nat):Int)=0:=eq_of_beq q.1.1;have q2:sIx items.size items.size hi-sIx items.size 0 lo=items.size:=eq_of_beq q.2;exact hw ⟨by omega,by omega⟩
 show wpAny _ _ (if (((sIx items.size 0 lo:Nat):Int)==0&&(1:Int)==1&&(sIx items.size items.size hi-sIx items.size 0 lo)==items.size)=true then _ else _) _ _ s;rw[if_neg hno,y4]
 first
  |exact wpAny_bind (m:=Builtin.Tuple.tupleExact _) (wpAny_newObj_type (wpAny_pure ⟨_,rfl,wpAny_pure h⟩) htake)
  |exact wpAny_bind (m:=Builtin.Tuple.tupleExact _) (wpAny_newObj_type (wpAny_bind (wpAny_pure (wpAny_pure ⟨_,rfl,wpAny_pure h⟩))) htake)
  |exact wpAny_bind (wpAny_bind (m:=Builtin.Tuple.tupleExact _) (wpAny_newObj_type (wpAny_pure (wpAny_pure ⟨_,rfl,wpAny_pure h⟩)) htake))
  |exact wpAny_bind (wpAny_bind (m:=Builtin.Tuple.tupleExact _) (wpAny_newObj_type (wpAny_pure ⟨_,rfl,wpAny_pure h⟩) htake))
end
end HT
namespace L2
open PySem PySem.Spec PyProof.Rows
variable{xs:List V}{n:Nat}{α:Type}{pins:List (Addr×Obj)}{σ:St}{H:Hp}{its its':List Value}
abbrev TO:=St->Hp->(Option Int->Hp->Prop)->Prop
def PO(X:Cx)(e:Option Expr)(t:TO):Prop :=
 ∀(pins:List (Addr×Obj)) (s:Shared) (σ:St) (H:Hp) (Q:Option Int->Hp->Prop),Inv X pins σ H s->t σ H Q ->
  wpAny (model X.prog X.w) X.A (evalPart e X.env) (fun u s'=>∃o H',Inv X pins σ H' s'/\IsPart u o/\Q o H') X.xe s
def Cr:TO:=fun _ H Q=>Q none H
def Kw(t:TE):TO:=fun σ H Q=>t σ H fun x H1=>∃i,x = .int i/\Q (some i) H1
theorem fI{ns:List Int}:∀{us:List Value},Vals (ns.map V.int) us->IntsAre us ns:=by
 induction ns with
 |nil=>intro us r;rw[List.map_nil]at r;cases r;exact .nil
 | cons n ns ih =>
  intro us r;rw[List.map_cons]at r
  cases r with
  |cons r1 r2 =>
   obtain⟨t,e⟩:=r1;subst e;exact .cons n t (ih r2)
section
variable {X:Cx}{e:Expr}{te:TE}{lo hi:Option Expr}{tl th:TO}{pos p2:Pos}
theorem BG:PO X none Cr:=by
 intro pins s σ H Q I h;rw[evalPart_none];exact wpAny_pure ⟨none,H,I,.none,h⟩
theorem Bm(h:PE X e te):PO X (some e) (Kw te):=by
 intro pins s σ H Q I hw;rw[evalPart_some];refine thn (h pins s σ H _ I hw) fun u s1 ⟨x,H1,I1,r1,q1⟩=>?_;obtain⟨i,rfl,q⟩:=q1;obtain⟨t,rfl⟩:=r1;exact⟨some i,H1,I1,.int i t,q⟩
def SlR(X:Cx)(r:V->Option Int->Option Int->Hp->VK->Prop):Prop :=
 ∀(pins:List (Addr×Obj)) (s:Shared) (σ:St) (H:Hp) (x:V) (v vl vu:Value) (lo hi:Option Int) (sl:Addr) (Q:VK),Inv X pins σ H s->RelV x v->s.heap.IsSliceOf sl vl vu .none->IsPart vl lo->IsPart vu hi->r x lo hi H Q ->
  ∃T id,typeLookup (.type T) "__getitem__" = pure (some (.builtin id))/\s.TypeIs v T/\wpAny (model X.prog X.w) X.A (getItem v (.ref sl)) (EP X pins σ Q) X.xe s
def tSl(r:V->Option Int->Option Int->Hp->VK->Prop)(te:TE)(tl th:TO):TE:=fun σ H Q=>te σ H fun x H1=>tl σ H1 fun l H2=>th σ H2 fun u H3=>r x l u H3 Q
theorem y0{r:V->Option Int->Option Int->Hp->VK->Prop}(hr:SlR X r)(he:PE X e te)(hl:PO X lo tl)(hu:PO X hi th):PE X (.Subscript e (.Slice lo hi none p2) pos) (tSl r te tl th):=by
 intro pins s σ H Q I h;refine Subscript_ (thn (he pins s σ H _ I h) fun v s1 ⟨x,H1,I1,r1,q1⟩=>?_);refine wpAny_Slice (thn (hl pins s1 σ H1 _ I1 q1) fun vl s2 ⟨l,H2,I2,pl,q2⟩=>thn (hu pins s2 σ H2 _ I2 q2) fun vu s3 ⟨u,H3,I3,pu,q3⟩=>?_);rw[evalPart_none];refine wpAny_pure ?_;have I4:Inv X pins σ H3 {s3 with heap:=s3.heap.push {cls:=.type "slice",data:=.fields #[vl,vu,.none]} }:=I3.kept (t':=s3.toks) fun b ob q=>Heap.get?_push_of_some _ q;obtain⟨T,id,hT,ht,hg⟩:=hr pins {s3 with heap:=s3.heap.push {cls:=.type "slice",data:=.fields #[vl,vu,.none]} } σ H3 x v vl vu l u s3.heap.objs.size Q I4 r1 (Heap.IsSliceOf.new ..) pl pu q3;show wpAny (model X.prog X.w) X.A (subscriptTail e (.Slice lo hi none p2) v (.ref s3.heap.objs.size)) (EP X pins σ Q) X.xe {s3 with heap:=s3.heap.push {cls:=.type "slice",data:=.fields #[vl,vu,.none]} };exact tail_any (ops:=[.ref s3.heap.objs.size,v]) ht hT hg (by with_unfolding_all rfl)
def cutV(xs:List V)(lo hi:Option Int):List V:=(xs.drop (HT.sIx xs.length 0 lo)).take (HT.sIx xs.length xs.length hi-HT.sIx xs.length 0 lo)
theorem j7(xs:List V)(lo hi:Option Int):(cutV xs lo hi).length≤xs.length:=by
 unfold cutV;rw[List.length_take,List.length_drop];omega
def rSlT(K:PySem.W.Frag):V->Option Int->Option Int->Hp->VK->Prop:=fun x lo hi H Q=>∃a xs,x = .ref a/\SqT K H a xs /\
 ¬(HT.sIx xs.length 0 lo=0/\HT.sIx xs.length xs.length hi=xs.length)/\∀p,H p=none->Q (.ref p) (upd H p (.tup (cutV xs lo hi)))
theorem Iu:SlR X (rSlT X.K):=by
 intro pins s σ H x v vl vu lo hi sl Q I rx hs pl pu h;obtain⟨a,xs,rfl,hx,hw,q⟩:=h;cases rx;obtain⟨its,r,ht,hz⟩:=I.tuple hx;have hlen:its.toArray.size=xs.length:=by rw[List.size_toArray];exact r.length.symm
 refine⟨"tuple",_,PyProof.Rows.slot_tuple_getitem.lookup,ht.typeIs,?_⟩;refine HT.getItem_tuple_cut ht hs pl pu (by rw[hlen];exact hw) ?_ (by rw[hlen];exact hz);rw[hlen];refine⟨.ref s.heap.objs.size,_,I.laid (t':=s.toks) (o:=.tup (cutV xs lo hi)) (fun b ob q=>Heap.get?_push_of_some _ q) (Nat.le_refl _) ?_,rfl,q _ (I.hok.fresh (Nat.le_refl _))⟩;exact⟨Nat.le_trans (j7 xs lo hi) hz,_,(r.drop (HT.sIx xs.length 0 lo)).take (HT.sIx xs.length xs.length hi-HT.sIx xs.length 0 lo),PlainT.new _ _⟩
def Ll(K:PySem.W.Frag):R2:=fun x y H Q=>∃a b xs ys,x = .ref a/\y = .ref b/\SqT K H a xs/\SqT K H b ys/\xs≠[]/\xs.length+ys.length≤sizeLine /\
 (ys=[]->Q (.ref a) H)/\(ys≠[]->∀p,H p=none->Q (.ref p) (upd H p (.tup (xs++ys))))
theorem Vals.nil_iff{us:List Value}(r:Vals xs us):us=[]↔xs=[]:=by
 cases r with
 |nil=>simp
 |cons _ _=>simp
theorem C5:OpR X (binaryOp .Add) (Ll X.K):=by
 intro pins s σ H x y v u Q I rx ry h;obtain⟨a,b,xs,ys,rfl,rfl,ha,hb,hx,hz,q1,q2⟩:=h;cases rx;cases ry;obtain⟨its,r1,p1,_⟩:=I.tuple ha;obtain⟨its2,r2,p2,_⟩:=I.tuple hb;refine HT.cat_tup p1 p2 (fun z=>hx (r1.nil_iff.mp z)) (fun z=>⟨.ref a,H,I,rfl,q1 (r2.nil_iff.mp z)⟩) (fun z=>?_) (by rw[<-r1.length,<-r2.length];exact hz);refine⟨.ref s.heap.objs.size,_,I.laid (t':=s.toks) (o:=.tup (xs++ys)) (fun b ob q=>Heap.get?_push_of_some _ q) (Nat.le_refl _) ?_,rfl,q2 (fun w=>z (r2.nil_iff.mpr w)) _ (I.hok.fresh (Nat.le_refl _))⟩;exact⟨by rw[List.length_append];exact hz,_,r1.append r2,PlainT.new _ _⟩
end
def ixN(n:Nat)(i:Int):Option Nat:=if 0≤i then(if i<n then some i.toNat else none)else if -(n:Int)≤i then some (i+n).toNat else none
def atI{α:Type}(xs:List α)(i:Int):Option α:=(ixN xs.length i).bind fun j=>xs[j]?
theorem wX{i:Int}{j:Nat}(h:ixN n i=some j):seqIndex? i n=some j/\j<n/\-(n:Int)≤i/\i<n:=by
 unfold ixN at h
 by_cases h0:0≤i
 .rw[if_pos h0]at h
  by_cases h1:i<n
  .rw[if_pos h1]at h;have e:i.toNat=j:=Option.some.inj h;exact⟨by rw[seqIndex_of h0 h1,e],by omega,by omega,h1⟩
  .rw[if_neg h1]at h;cases h
 .rw[if_neg h0]at h
  by_cases h1 : -(n:Int)≤i
  .rw[if_pos h1]at h;have e:(i+n).toNat=j:=Option.some.inj h;exact⟨by rw[seqIndex_neg (by omega) h1,e],by omega,h1,by omega⟩
  .rw[if_neg h1]at h;cases h
theorem oM{xs:List α}{i:Int}{v:α}(h:atI xs i=some v):∃j,seqIndex? i xs.length=some j/\xs[j]?=some v/\j<xs.length/\-(xs.length:Int)≤i/\i<xs.length:=by
 unfold atI at h
 cases e:ixN xs.length i with
 |none=>rw[e]at h;cases h
 |some j =>
  rw[e]at h;obtain⟨h1,h2,h3,h4⟩:=wX e;exact⟨j,h1,h,h2,h3,h4⟩
theorem ay{xs:List α}{j:Nat}{v:α}(h:xs[j]?=some v):atI xs (j:Int)=some v:=by
 have hj:j<xs.length:=(List.getElem?_eq_some_iff.mp h).1;have e:ixN xs.length (j:Int)=some j:=by
  unfold ixN;rw[if_pos (by omega),if_pos (by omega)];simp
 unfold atI;rw[e];exact h
def p8(b:Expr):Prop:=∀o i,subscripted b false o i=operate [o,i] (getItem o i)
def IxR(X:Cx)(r:R2):Prop :=
 ∀(value slice:Expr) (pins:List (Addr×Obj)) (s:Shared) (σ:St) (H:Hp) (x y:V) (v u:Value) (Q:VK),Inv X pins σ H s->RelV x v->RelV y u->r x y H Q ->
  subscripted slice false v u=operate [v,u] (getItem v u)->wpAny (model X.prog X.w) X.A (subscriptTail value slice v u) (EP X pins σ Q) X.xe s
def MtR(X:Cx)(id:String)(r:V->List V->Hp->VK->Prop):Prop :=
 ∀(pins:List (Addr×Obj)) (s:Shared) (σ:St) (H:Hp) (x:V) (xs:List V) (v:Value) (us:List Value) (Q:VK),Inv X pins σ H s->RelV x v->Vals xs us->r x xs H Q ->
  wpAny (model X.prog X.w) X.A (call (.builtin id) (v::us)) (EP X pins σ Q) X.xe s
section
variable {X:Cx}{a b:Expr}{ta tb:TE}{pos:Pos}
theorem La{r:R2}(hr:IxR X r)(ha:PE X a ta)(hb:PE X b tb)(hs:p8 b):PE X (.Subscript a b pos) (tOp r ta tb):=by
 intro pins s σ H Q I h;exact Subscript_ (binT ha hb I h fun v u s2 x y H2 I2 rx ry q=>hr a b pins s2 σ H2 x y v u Q I2 rx ry q (hs _ _))
def rIxL(K:PySem.W.Frag):R2:=fun x y H Q=>∃p xs i v,x = .ref p/\y = .int i/\SqL K H p xs/\atI xs i=some v/\Q v H
def rIxT(K:PySem.W.Frag):R2:=fun x y H Q=>∃p xs i v,x = .ref p/\y = .int i/\SqT K H p xs/\atI xs i=some v/\Q v H
def rIxS:R2:=fun x y H Q=>∃z i c,x = .str z/\y = .int i/\z.length≤sizeLine/\atI z.cps.toList i=some c/\Q (.str ⟨#[c]⟩) H
theorem CK:IxR X (rIxL X.K):=by
 intro value slice pins s σ H x y v u Q I rx ry h hs;obtain⟨p,xs,i,z,rfl,rfl,hq,he,q⟩:=h;cases rx;obtain⟨t,rfl⟩:=ry;obtain⟨its,r,pl,hz⟩:=I.list hq;obtain⟨j,h1,h2,h3,h4,h5⟩:=oM he;obtain⟨w,ew,rw'⟩:=r.get h2;have hl:=r.length;have hn:=kJ;have fin:EP X pins σ Q w s:=⟨z,H,I,rw',q⟩
 by_cases h0:0≤i
 .have hj:i.toNat=j:=by
   rw[seqIndex_of h0 h5]at h1;exact Option.some.inj h1
  exact item_listR pl.isList h0 (by omega) (by rw[hj];simpa using ew) fin hs
 .have hj:(i+(its.toArray.size:Int)).toNat=j:=by
   rw[seqIndex_neg (by omega) h4]at h1;rw[List.size_toArray,<-hl];exact Option.some.inj h1
  exact subscriptTail_builtinR (x:=w) pl.isList.typeIs slot_list_getitem.lookup
   (wpAny_getItem_list_neg (Q:=fun r s'=>r=w/\EP X pins σ Q r s') pl.isList (by omega) (by rw[List.size_toArray]<;>omega) (by omega) (by rw[hj];simpa using ew) ⟨rfl,fin⟩) hs
theorem IP:IxR X (rIxT X.K):=by
 intro value slice pins s σ H x y v u Q I rx ry h hs;obtain⟨p,xs,i,z,rfl,rfl,hq,he,q⟩:=h;cases rx;obtain⟨t,rfl⟩:=ry;obtain⟨its,r,pl,hz⟩:=I.tuple hq;obtain⟨j,h1,h2,h3,h4,h5⟩:=oM he;obtain⟨w,ew,rw'⟩:=r.get h2;have hl:=r.length;have hn:=kJ;have fin:EP X pins σ Q w s:=⟨z,H,I,rw',q⟩;exact subscriptTail_builtinR (x:=w) pl.typeIs slot_tuple_getitem.lookup
  (getItem_tuple (j:=j) (Q:=fun r s'=>r=w/\EP X pins σ Q r s') pl (by omega) (by omega) (by rw[List.size_toArray,<-hl];exact h1) (by simpa using ew) ⟨rfl,fin⟩) hs
theorem FQ:IxR X rIxS:=by
 intro value slice pins s σ H x y v u Q I rx ry h hs;obtain⟨z,i,c,rfl,rfl,hz,he,q⟩:=h;obtain⟨t,rfl⟩:=rx;obtain⟨t',rfl⟩:=ry;obtain⟨j,h1,h2,h3,h4,h5⟩:=oM he;have hl:z.cps.toList.length=z.length:=by simp[Str.length]
 rw[hl]at h1 h4 h5;have hn:=kJ;exact tail_any (typeIs_str s z t) slot_str_getitem.lookup (getItem_str (c:=c) (by
  have e1:decide (i < -(2^63:Int))=false:=decide_eq_false (by omega);have e2:decide (i≥2^63)=false:=decide_eq_false (by omega);rw[e1,e2,Bool.or_false]) (by rw[h1];simpa using h2) ⟨.str ⟨#[c]⟩,H,I.tok _,⟨_,rfl⟩,q⟩) hs
theorem sy(its:List Value)(n j:Nat)(u:Value):Obj.mapSeq (·.setIfInBounds j u) {cls:=.type "list",data:=.seq its.toArray n}={cls:=.type "list",data:=.seq (its.set j u).toArray n}:=by
 simp[Obj.mapSeq]
theorem Inv.lst{s:Shared}{p:Addr}(I:Inv X pins σ H s)(h:H p=some (.lst xs)) :
  ∃(its:List Value) (n:Nat),Vals xs its/\s.heap.get? p=some {cls:=.type "list",data:=.seq its.toArray n}/\xs.length≤sizeLine:=by
 obtain⟨z,its,n,r,e⟩:=I.hok p _ h;exact⟨its,n,r,e,z⟩
theorem Inv.lstUpd{s:Shared}{p:Addr}{ys:List V}{n':Nat}{f:Obj->Obj}(I:Inv X pins σ H s)(h:H p=some (.lst xs))
  (ho:s.heap.get? p=some {cls:=.type "list",data:=.seq its.toArray n}) (hf:f {cls:=.type "list",data:=.seq its.toArray n}={cls:=.type "list",data:=.seq its'.toArray n' }) (r:Vals ys its') (hz:ys.length≤sizeLine) (t:Nat) :
  Inv X pins σ (upd H p (.lst ys)) {s with heap:=s.heap.update p f,toks:=t}:=by
 have e:(s.heap.update p f).get? p=some {cls:=.type "list",data:=.seq its'.toArray n' }:=by
  rw[Heap.get?_update_self f ho (by rw[hf]<;>rfl),hf]
 refine I.write (x:=p) (e:=p) (by rw[h];trivial) (.inl rfl) (fun b u hb q=>(Heap.get?_update_other _ _ (Ne.symm hb)).trans q) ⟨_,e⟩ ?_;exact⟨hz,its',n',r,e⟩
def Km:V->V->V->Hp->(Hp->Prop)->Prop:=fun o i v H Q=>∃p xs k j,o = .ref p/\i = .int k/\H p=some (.lst xs)/\ixN xs.length k=some j/\Q (upd H p (.lst (xs.set j v)))
theorem zj:PSet X Km:=by
 intro pins s σ H o i v ov iv u Q I ro ri rv h;obtain⟨p,xs,k,j,rfl,rfl,hp,hj,q⟩:=h;cases ro;obtain⟨t,rfl⟩:=ri;obtain⟨its,n,r,ho,hz⟩:=I.lst hp;obtain⟨h1,h2,h3,h4⟩:=wX hj;have hl:=r.length;have hn:=kJ;have I':Inv X pins σ (upd H p (.lst (xs.set j v))) {s with heap:=s.heap.update p (Obj.mapSeq (·.setIfInBounds j u))} :=
  I.lstUpd hp ho (sy its n j u) (r.set rv j) (by rw[List.length_set];exact hz) s.toks
 by_cases h0:0≤k
 .have hk:k.toNat=j:=by
   rw[seqIndex_of h0 h4]at h1;exact Option.some.inj h1
  exact PySem.W.ki_setAt ho h0 (by omega) (by rw[List.size_toArray,<-hl];exact h4) (by rw[hk];exact⟨_,I',q⟩)
 .have hk:(k+(its.toArray.size:Int)).toNat=j:=by
   rw[seqIndex_neg (by omega) h3]at h1;rw[List.size_toArray,<-hl];exact Option.some.inj h1
  exact PySem.W.ki_setBack ho (by omega) (by rw[List.size_toArray,<-hl];exact h3) (by omega) (by rw[hk];exact⟨_,I',q⟩)
theorem ot(lo hi:Option Int)(n:Nat):(sliceBounds lo hi none n).1=((HT.sIx n 0 lo:Nat):Int)/\(sliceBounds lo hi none n).2.1=((HT.sIx n n hi:Nat):Int)/\(sliceBounds lo hi none n).2.2=1:=by
 refine⟨?_,?_,rfl⟩
 .cases lo with
  |none=>simp[sliceBounds,HT.sIx]
  |some i =>
   simp only[sliceBounds,HT.sIx,Option.getD_none,show(1:Int)>0 by decide,if_true]
   by_cases h:i<0
   .simp only[h,if_true]<;>omega
   .simp only[h,if_false]<;>omega
 .cases hi with
  |none=>simp[sliceBounds,HT.sIx]
  |some i =>
   simp only[sliceBounds,HT.sIx,Option.getD_none,show(1:Int)>0 by decide,if_true]
   by_cases h:i<0
   .simp only[h,if_true]<;>omega
   .simp only[h,if_false]<;>omega
theorem la(its:List Value)(lo hi:Option Int):slicePick its.toArray lo hi none=((its.drop (HT.sIx its.length 0 lo)).take (HT.sIx its.length its.length hi-HT.sIx its.length 0 lo)).toArray:=by
 obtain⟨h1,h2,h3⟩:=ot lo hi its.toArray.size;unfold slicePick;rw[h1,h2,h3];simp only[sliceRange_one,pick_run,List.size_toArray]<;>rfl
def rSlL(K:PySem.W.Frag):V->Option Int->Option Int->Hp->VK->Prop:=fun x lo hi H Q=>∃a xs,x = .ref a/\SqL K H a xs/\∀p,H p=none->Q (.ref p) (upd H p (.lst (cutV xs lo hi)))
theorem Bj:SlR X (rSlL X.K):=by
 intro pins s σ H x v vl vu lo hi sl Q I rx hs pl pu h;obtain⟨a,xs,rfl,hx,q⟩:=h;cases rx;obtain⟨its,r,ht,hz⟩:=I.list hx;have hlen:=r.length;refine⟨"list",_,slot_list_getitem.lookup,ht.isList.typeIs,?_⟩;refine wpAny_getItem_list_slice ht.isList hs pl pu .none (by simp) ?_ (by rw[List.size_toArray]<;>omega);rw[la,<-hlen];refine⟨.ref s.heap.objs.size,_,I.laid (t':=s.toks) (o:=.lst (cutV xs lo hi)) (fun b ob q=>Heap.get?_push_of_some _ q) (Nat.le_refl _) ?_,rfl,q _ (I.hok.fresh (Nat.le_refl _))⟩;exact⟨Nat.le_trans (j7 xs lo hi) hz,_,0,(r.drop (HT.sIx xs.length 0 lo)).take (HT.sIx xs.length xs.length hi-HT.sIx xs.length 0 lo),Heap.get?_push_size _ rfl⟩
theorem i8:dn X (.builtin "len") (fun xs H Q=>∃p ys,xs=[.ref p]/\(SqL X.K H p ys\/SqT X.K H p ys)/\Q (.int ys.length) H):=by
 intro pins s σ H xs us Q I r h;obtain⟨p,ys,rfl,hq,q⟩:=h;obtain⟨u,rfl,rx⟩:=sI r;cases rx;have hn:=kJ;rcases hq with hq|hq
 .obtain⟨its,r',pl,hz⟩:=I.list hq;have hlen:=r'.length;exact Calls.call_len_list pl.isList (by simp only[List.size_toArray]<;>omega) ⟨.int ys.length,H,I.tok _,⟨s.toks+1,by rw[List.size_toArray,hlen]⟩,q⟩
 .obtain⟨its,r',pl,hz⟩:=I.tuple hq;have hlen:=r'.length;exact len_tuple pl (by simp only[List.size_toArray]<;>omega) ⟨.int ys.length,H,I.tok _,⟨s.toks+1,by rw[List.size_toArray,hlen]⟩,q⟩
theorem na:dn X (.builtin "len") (fun xs H Q=>∃z,xs=[.str z]/\z.length≤sizeLine/\Q (.int z.length) H):=by
 intro pins s σ H xs us Q I r h;obtain⟨z,rfl,hz,q⟩:=h;obtain⟨u,rfl,t,rfl⟩:=sI r;have hn:=kJ;exact len_str (by omega) ⟨.int z.length,H,I.tok _,⟨_,rfl⟩,q⟩
theorem lJ:dn X (.type "tuple") (fun xs H Q=>∃p ys,xs=[.ref p]/\((SqL X.K H p ys/\∀l,H l=none->Q (.ref l) (upd H l (.tup ys)))\/(SqT X.K H p ys/\Q (.ref p) H))):=by
 intro pins s σ H xs us Q I r h;obtain⟨p,ys,rfl,h⟩:=h;obtain⟨u,rfl,rx⟩:=sI r;cases rx;rcases h with⟨hq,q⟩|⟨hq,q⟩
 .obtain⟨its,r',pl,hz⟩:=I.list hq;have hlen:=r'.length;refine call_tuple_list pl.isList (fun h' kp=>?_) (by simp only[List.size_toArray]<;>omega);have I1:Inv X pins σ H {s with heap:=h' }:=I.kept (t':=s.toks) kp;have I2:Inv X pins σ (upd H h'.objs.size (.tup ys)) {s with heap:=h'.push {cls:=.type "tuple",data:=.seq its.toArray} } :=
   I1.laid (t':=s.toks) (fun b o e=>Heap.get?_push_of_some _ e) (Nat.le_refl _) (show ObjOk X.prog X.w _ _ _ (.tup ys)from⟨hz,its,r',PlainT.new _ _⟩)
  exact⟨.ref h'.objs.size,_,I2,rfl,q _ (I1.hok.fresh (Nat.le_refl _))⟩
 .obtain⟨its,r',pl,hz⟩:=I.tuple hq;exact call_tuple_same pl ⟨.ref p,H,I,rfl,q⟩
def tyV(K:PySem.W.Frag)(T:String)(x:V)(H:Hp):Prop:=match x with
 | .str _=>T = "str"
 | .int _=>T = "int"
 | .ref p=>(T = "list" /\ ∃xs,SqL K H p xs)\/(T = "tuple" /\ ∃xs,SqT K H p xs) \/
   (T = "dict" /\ ((∃kvs,H p=some (.dK kvs))\/∃kvs,H p=some (.dT kvs)))\/(T = "set" /\ ∃S n,H p=some (.set S n))
 |_=>False
theorem Ik{s:Shared}{T:String}{x:V}{v:Value}(I:Inv X pins σ H s)(r:RelV x v)(ty:tyV X.K T x H) :
  s.TypeIs v T/\∀a,v = .ref a->∃ob,s.heap.get? a=some ob/\ob.dict=none:=by
 cases x with
 |str z =>
  obtain⟨t,rfl⟩:=r
  cases (show T = "str" from ty)
  exact⟨typeIs_str s z t,fun _ e=>nomatch e⟩
 |int i =>
  obtain⟨t,rfl⟩:=r
  cases (show T = "int" from ty)
  exact⟨typeIs_int s i t,fun _ e=>nomatch e⟩
 | ref p =>
  cases r;rcases ty with⟨rfl,xs,hq⟩|⟨rfl,xs,hq⟩|⟨rfl,hk⟩|⟨rfl,S,n,hk⟩
  .obtain⟨its,_,pl,_⟩:=I.list hq;refine⟨pl.isList.typeIs,fun a e=>?_⟩;cases e;obtain⟨o,n,e,c,hd,_⟩:=pl;exact⟨o,e,hd⟩
  .obtain⟨its,_,⟨o,e0,hc,hd,_⟩,_⟩:=I.tupleP hq;refine⟨⟨o,e0,hc⟩,fun a e=>?_⟩;cases e;exact⟨o,e0,hd⟩
  .have z:∃o,s.heap.get? p=some o/\o.ExactDict:=by
    rcases hk with⟨kvs,hk⟩|⟨kvs,hk⟩
    .obtain⟨_,_,_,_,o,_,_,e,ex,_⟩:=I.hok p _ hk;exact⟨o,e,ex⟩
    .obtain⟨_,_,_,_,o,_,_,e,ex,_⟩:=I.hok p _ hk;exact⟨o,e,ex⟩
   obtain⟨o,e,ex⟩:=z;refine⟨⟨o,e,ex.1⟩,fun a e2=>?_⟩;cases e2;exact⟨o,e,ex.2.1⟩
  .obtain⟨o,_,_,_,e,ex,_⟩:=I.hok p _ hk;refine⟨⟨o,e,ex.1⟩,fun a e2=>?_⟩;cases e2;exact⟨o,e,ex.2.1⟩
 |_=>exact False.elim ty
def tBM(K:PySem.W.Frag)(T:String)(r:V->List V->Hp->VK->Prop)(to:TE)(t:TA):TE:=fun σ H Q=>to σ H fun x H1=>tyV K T x H1/\t σ H1 fun xs H2=>r x xs H2 Q
variable {o e:Expr}{es:List Expr}{to:TE}{t:TA}{name:Str}{apos cpos:Pos}{T id:String}{r:V->List V->Hp->VK->Prop}
theorem Ic(pa:PlainAttrs T)(slot:Slot T name id)(hty:typeOf (.builtin id)=pure (.type "method_descriptor"))(hm:MtR X id r)(ho:PE X o to)(ha:PA X (e::es) t)
  (hbase:attributeBase o name X.env (eval o X.env)=eval o X.env:=by rfl)
  (hfew:((backTo cpos (starEach (e::es) X.env)).all (fun x=>!x.1)&&(backToKw cpos (keywordEach [] X.env)).all (fun x=>x.1.isSome)
   && decide ((e::es).length+([]:List Keyword).length+(if ([]:List Keyword).isEmpty then 0 else 1)<30))=true:=by rfl)
  (hline:(apos.endLine==cpos.line)=true:=by rfl) (hs:starEach (e::es) X.env=(false,eval e X.env)::starEach es X.env:=by rfl) (hplain:(backTo cpos (starEach es X.env)).any (·.1)=false:=by rfl) :
  PE X (.Call (.Attribute o name apos) (e::es) [] cpos) (tBM X.K T r to t):=by
 intro pins s σ H Q I h;refine wpAny_Call_method_late hbase hfew hline rfl (thn (ho pins s σ H _ I h) fun v s1 ⟨x,H1,I1,r1,ty,q1⟩=>?_);obtain⟨h1,h2⟩:=Ik I1 r1 ty;refine⟨T,id,pa,slot,hty,h1,h2,?_⟩;have hA:=ha cpos pins s1 σ H1 _ I1 q1;rw[hs]at hA⊢;refine Calls.callWith_builtin (by show(false||(backTo cpos (starEach es X.env)).any (·.1))=false;rw[hplain]<;>rfl) (Calls.evalArgs_plain ?_);exact thn hA fun us s2 ⟨vs,H2,I2,r2,q2⟩=>hm pins s2 σ H2 x vs v us Q I2 r1 r2 q2
end
def MtM(X:Cx)(id:String)(r:V->List V->Hp->VK->Prop):Prop :=
 ∀(pins:List (Addr×Obj)) (s:Shared) (σ:St) (H:Hp) (x:V) (xs:List V) (v:Value) (us:List Value) (Q:VK),Inv X pins σ H s->RelV x v->Vals xs us->r x xs H Q ->
  wpAny (model X.prog X.w) X.A (call (.builtin id) (v::us)) (EP X pins σ Q) X.xe s
theorem Vals.one:∀{x:V}{us:List Value},Vals [x] us->∃u,us=[u]/\RelV x u
 |_,_,.cons r .nil=>⟨_,rfl,r⟩
theorem Vals.rep{xs:List V}{us:List Value}(h:Vals xs us):∀k:Nat,Vals (List.replicate k xs).flatten (List.replicate k us).flatten
 |0=>.nil
 |k+1=>by
  rw[List.replicate_succ,List.replicate_succ,List.flatten_cons,List.flatten_cons];exact Vals.append h (Vals.rep h k)
theorem j3(its:List Value):∀(k:Nat) (acc:List Value),
  List.foldl (fun x1 x2=>x1++x2) acc.toArray (List.replicate k its.toArray)=(acc++(List.replicate k its).flatten).toArray
 |0,acc=>by simp
 | k+1,acc=>by
  have e:acc.toArray++its.toArray=(acc++its).toArray:=by simp
  have e2:(acc++its)++(List.replicate k its).flatten=acc++(List.replicate (k+1) its).flatten:=by
   rw[List.replicate_succ,List.flatten_cons,List.append_assoc]
  rw[<-e2,<-j3 its k (acc++its),<-e,List.replicate_succ,List.foldl_cons]
section
variable {X:Cx}{pins:List (Addr×Obj)}{σ:St}{H:Hp}{s:Shared}{l b:Addr}{xs ys zs:List V}
theorem Inv.lset{f:Array Value->Array Value}{t':Nat}(I:Inv X pins σ H s)(hH:H l=some (.lst xs))
  (e:s.heap.get? l=some {cls:=.type "list",data:=.seq its.toArray n}) (hf:f its.toArray=its'.toArray) (hv:Vals ys its') (hz:ys.length≤sizeLine) :
  Inv X pins σ (upd H l (.lst ys)) {s with heap:=s.heap.update l (Obj.mapSeq f),toks:=t' }:=by
 have q:=PySem.IsL.update e f;rw[hf]at q;refine I.write (x:=l) (e:=l) (by rw[hH];exact trivial) (.inl rfl) (fun b' u hb hu=>(Heap.get?_update_other s.heap (Obj.mapSeq f) (Ne.symm hb)).trans hu) ⟨_,q⟩ ?_;exact⟨hz,its',_,hv,q⟩
theorem Inv.lnew{t':Nat}(I:Inv X pins σ H s)(hv:Vals ys its)(hz:ys.length≤sizeLine) :
  Inv X pins σ (upd H s.heap.objs.size (.lst ys)) {s with heap:=s.heap.push {cls:=.type "list",data:=.seq its.toArray},toks:=t' } :=
 I.laid (fun _ _ q=>Heap.get?_push_of_some _ q) (Nat.le_refl _) ⟨hz,its,0,hv,Heap.get?_push_size _ rfl⟩
theorem Inv.fresh(I:Inv X pins σ H s):H s.heap.objs.size=none:=I.hok.fresh (Nat.le_refl _)
theorem Inv.lstM(I:Inv X pins σ H s)(hH:H l=some (.lst xs)):xs.length≤sizeLine/\∃(its:List Value) (n:Nat),Vals xs its/\xs.length=its.length/\s.heap.get? l=some {cls:=.type "list",data:=.seq its.toArray n}:=by
 obtain⟨z,its,n,r,e⟩:=I.hok l _ hH;exact⟨z,its,n,r,r.length,e⟩
theorem qr(h:n≤sizeLine):Builtin.List.listTooLong n=false:=by
 unfold Builtin.List.listTooLong;exact decide_eq_false (by omega)
end
section
variable {X:Cx}
def AI:V->List V->Hp->VK->Prop:=fun x vs H Q=>∃l xs y,x = .ref l/\vs=[y]/\H l=some (.lst xs)/\xs.length<sizeLine/\Q .non (upd H l (.lst (xs++[y])))
theorem mY:MtM X "list.append" AI:=by
 intro pins s σ H x vs v us Q I rx rv h;obtain⟨l,xs,y,rfl,rfl,hH,hz,q⟩:=h;cases rx;obtain⟨u,rfl,ru⟩:=rv.one;obtain⟨z,its,n,r,hl,e⟩:=I.lstM hH;refine call_meets F.slot_list_append ⟨_,e,rfl⟩ F.entry_list_append (F.args_list_append_2 _ _) (PySem.list_append l its.toArray n u (by rw[List.size_toArray];omega)) ⟨e,?_⟩;refine⟨.non,_,I.lset (its':=its++[u]) hH e (by simp) (r.append (.cons ru .nil)) ?_,rfl,q⟩;rw[List.length_append,List.length_singleton];omega
def AA:V->List V->Hp->VK->Prop:=fun x vs H Q=>∃l b xs zs,x = .ref l/\vs=[.ref b]/\H l=some (.lst xs)/\H b=some (.lst zs)/\xs.length+zs.length≤sizeLine/\Q .non (upd H l (.lst (xs++zs)))
theorem wY:MtM X "list.extend" AA:=by
 intro pins s σ H x vs v us Q I rx rv h;obtain⟨l,b,xs,zs,rfl,rfl,hH,hB,hz,q⟩:=h;cases rx;obtain⟨u,rfl,ru⟩:=rv.one;cases ru;obtain⟨z,its,n,r,hl,e⟩:=I.lstM hH;obtain⟨z2,its2,n2,r2,hl2,e2⟩:=I.lstM hB;have hsz:its.toArray.size+its2.toArray.size≤sizeLine:=by rw[List.size_toArray,List.size_toArray];omega
 have hlong:¬(!its.toArray.isEmpty&&Builtin.List.listTooLong (its.toArray.size+its2.toArray.size))=true:=by
  rw[qr hsz,Bool.and_false];exact Bool.false_ne_true
 refine call_meets F.slot_list_extend ⟨_,e,rfl⟩ F.entry_list_extend (F.args_list_extend_2 _ _)
  (AutoSeq1.list_extend_list_list_0 l its.toArray n b its2.toArray n2 hlong (by rw[List.size_toArray];omega) (by omega)) ⟨e,e2,?_⟩
 refine⟨.non,_,I.lset (its':=its++its2) hH e (by simp) (r.append r2) ?_,rfl,q⟩;rw[List.length_append];omega
def rRep:R2:=fun x y H Q=>∃l k xs,x = .ref l/\y = .int k/\H l=some (.lst xs)/\-(2^63)≤k/\k<2^63/\xs.length*k.toNat≤sizeLine /\
 ∀p,H p=none->Q (.ref p) (upd H p (.lst (List.replicate k.toNat xs).flatten))
theorem w4(xs:List α)(k:Nat):(List.replicate k xs).flatten.length=k*xs.length:=by
 induction k with
 |zero=>simp
 |succ k ih=>rw[List.replicate_succ,List.flatten_cons,List.length_append,ih,Nat.succ_mul,Nat.add_comm]
theorem FJ:OpR X (binaryOp .Mult) rRep:=by
 intro pins s σ H x y v u Q I rx ry h;obtain⟨l,k,xs,rfl,rfl,hH,h1,h2,hz,q⟩:=h;cases rx;obtain⟨t,rfl⟩:=ry;obtain⟨z,its,n,r,hl,e⟩:=I.lstM hH;have hlen:its.toArray.size*k.toNat≤sizeLine:=by rw[List.size_toArray,<-hl];exact hz
 have hcap:¬its.toArray.size*k.toNat>(2^63-1)/8:=by
  have:(sizeLine:Nat)≤(2^63-1)/8:=by decide
  omega
 have hfit:¬(!Builtin.List.listFitsIndex k)=true:=by
  rw[fitsIndex_both h1 h2];exact Bool.false_ne_true
 have hlong:¬Builtin.List.listTooLong (its.toArray.size*k.toNat)=true:=by
  rw[qr hlen];exact Bool.false_ne_true
 have hnew:List.foldl (fun x1 x2=>x1++x2) #[] (List.replicate (if its.toArray.isEmpty=true then 0 else k.toNat) its.toArray)=(List.replicate k.toNat its).flatten.toArray:=by
  have f0:∀m:Nat,List.foldl (fun x1 x2=>x1++x2) #[] (List.replicate m its.toArray)=(List.replicate m its).flatten.toArray:=fun m=>by
   have:=j3 its m [];rw[List.nil_append]at this;exact this
  rw[f0]
  cases its with
  |nil=>simp
  |cons a r'=>rw[if_neg (by simp)]
 refine wpAny_binaryOp_repeat_ref (T := "list") (U := "int") (by decide) ⟨_,e,rfl⟩ (fun s'=>typeIs_int s' k t) noFill_list_mul F.fills_int_mul F.slot_int_rmul repeat_list F.slot_int_index.lookup
  (call_meets F.slot_int_rmul (typeIs_int s k t) F.entry_int_rmul (F.args_int_rmul_2 _ _) (int___rmul___int_list k t l its.toArray n)
   ⟨e,rfl,⟨_,e,rfl⟩,call_meets F.slot_list_mul ⟨_,e,rfl⟩ F.entry_list_mul (F.args_list_mul_2 _ _) (AutoListH.list___mul___list_int_3 l its.toArray n k t hfit hcap hlong) ⟨e,?_⟩⟩)
 rw[hnew];exact⟨.ref _,_,I.lnew (t':=s.toks) (r.rep k.toNat) (by rw[w4,Nat.mul_comm];exact hz),rfl,q _ I.fresh⟩
end
end L2
namespace Att
open PySem PySem.W PySem.Calls PyProof.Rows
theorem j8{P:Params}{h:Heap}:∀(ns:List Int) (vs:List Value),WellAll P h vs (ns.map WData.int)->IntsAre vs ns:=by
 intro ns
 induction ns with
 |nil =>
  intro vs w;rw[List.map_nil]at w;cases w;exact .nil
 | cons n ns ih =>
  intro vs w;rw[List.map_cons]at w
  cases w with
  |cons a b =>
   cases a;exact .cons _ _ (ih _ b)
theorem xH{l:OpenLaw}{n:Nat}(hn:l.most=some n){P:Params}{h:Heap}{args:List WData}{vals:List Value}
  (hpre:l.row.toRowW.claim.pre args=true) (hwl:WellAll P h vals args) :
  ∃a vs ns,vals=[Value.ref a]/\args=[WData.list (ns.map WData.int)]/\h.get? a=some {cls:=.type "list",data:=.seq vs.toArray}/\IntsAre vs ns/\ns.length≤n:=by
 have hsh:WShape.hasAll [] args [.list .int]=true:=(pre_splitW hpre).1;have hc:l.pre.holds [] {args:=args}=true:=(pre_splitW hpre).2;obtain⟨d,r,rfl,h1,h2⟩:=hasAllW_cons hsh;obtain rfl:=hasAllW_nil h2;obtain⟨xs,rfl,h3⟩:=hasW_list h1;obtain⟨ns,rfl⟩:=items_int h3;have hlen:ns.length≤n:=by
  unfold OpenLaw.pre at hc;have h4:(WTm.not (.lt (.lit (.int (n:Int))) (.len (.arg 0)))).holds [] {args:=[.list (ns.map .int)]}=true:=by
   have h4:=(holds_andW hc).1;rw[hn]at h4;exact h4
  have h5:=condW_of h4 (w_not (w_lt w_lit (w_len_list (w_arg rfl))));rw[List.length_map]at h5;refine Nat.le_of_not_lt fun q=>?_;have q':(n:Int)<((ns.length:Nat):Int):=by omega
  first
   |(rw[decide_eq_true q']at h5;exact absurd h5 (by decide))
   |(simp at h5;omega)
 cases hwl with
 |cons w1 w2 =>
  cases w2
  cases w1 with
  |list ho hall=>exact⟨_,_,ns,rfl,rfl,ho,j8 ns _ hall,hlen⟩
theorem vM(l:OpenLaw)(args:List WData):l.row.toRowW.claim.post args (.bool true) args=true :=
 postW_of (r:=l.row.toRowW) (X:=(true==true))
  (show WShape.has [] (.bool true) .bool=true by first|rfl|decide|simp[WShape.has,WShape.arms,WShape.armsAll])
  (show(WTm.eq .res (.lit (.bool true))).value [] {args:=args,res:=some (.bool true),after:=args}=some (.bool (true==true))from w_eq_bool (w_res rfl) w_lit) rfl
theorem attach_call{l:OpenLaw}{n:Nat}{q:Program}{loose:List Str}{XP:(Str->Option Value)->Heap->Prop}{YP:World->Heap->Prop}{d:DefRec}
  (hn:l.most=some n) (hdf:d.params.defaults=[])
  (call:∀(w:World) (s₀ s₁:Shared) (mg mb:Str->Option Value) (fa:Addr) (o:Obj) (pm cd doc:Value) (a:Addr) (vs:List Value) (ns:List Int),
   Ground q loose [] XP w s₀ mg mb s₁.heap->YP w s₁.heap ->
   s₁.heap.get? fa=some o->o.data = .func (docDef d.name d.params d.body d.scope pm cd doc)->s₁.heap.CodeRec cd d.name->mg d.name=some (.ref fa) ->
   s₁.heap.get? a=some {cls:=.type "list",data:=.seq vs.toArray}->IntsAre vs ns->ns.length≤n->s₁.gens = #[] ->
   codeAny (model l.prog w) callerA (.call (.ref fa) ⟨[.ref a],[]⟩) (fun r s'=>r = .ok (.ret (.bool true))/\OldK s₁.heap s'.heap/\s'.os=s₁.os/\AllBare s'.gens) s₁) :
  WalkO q loose XP YP l.row.toRowW d [] (fun f vs=>PySem.call f vs):=by
 intro w s₀ s₁ mg mb G Y fa o pm cd doc dV kV ho hd hcd hD hmg hg args vals as hpre hlay hrd hwl hlo;obtain rfl:dV = .none:=Dflts.none hD hdf;obtain rfl:kV = .none:=Dflts.noKw hD;obtain⟨a,vs,ns,rfl,rfl,hobj,hints,hlen⟩:=xH hn hpre hwl;refine enter_call (codeAny_mono (call w s₀ s₁ mg mb fa o pm cd doc a vs ns G Y ho (fd_plain hd) hcd hmg hobj hints hlen hg) fun r s' hq=>?_);obtain⟨rfl,h2,h3,h4⟩:=hq;exact⟨.inl ⟨.bool true,.bool true,[],rfl,fun _=>rfl,.bool true,vM l _,fun _=>⟨List.Pairwise.nil,fun _ hm=>(nomatch hm)⟩⟩,h2,h3,h4⟩
end Att
namespace L2
open PySem PySem.Spec PyProof.Rows
variable{P:MSt->Prop}{w:WS}{K:Kd}{mg:Str->Option Value}{a f l:Addr}{fd:FuncData}{qual x y:Str}{ns:List Int}{i j n nN q:Nat}{X:Cx}{st:Stmt}{N own ps:List Str}{od:Option Addr}{A B:Prop}{env:Env}{scope:Scope}{c e elt t tg:Expr}{p pos pos':Pos}{ifs:List Expr}{tb:TS}{J:It}{fp:List Addr}{tn:Nat->Heap->Prop}{pins:List (Addr×Obj)}{σ σ':St}{H H' H0 H1 H2 Hb:Hp}{D:Ends}{E:Value->Shared->Prop}{Q:VK}{vs xs:List V}{ds ds':List PyData}{v:V}{ao:Ao}{α α' α1 β:Al}{τ:List (List Nat×Addr)}{r:R}{o:WO}{op:CmpOp}{sp:SpM}{ks:List Nat}{De:cZ}{g:WG}{gs:WGs}{m1:MSt}{wi:WI}{we:WE}{tt:WT}{ob:R->Option Int->Option Int->MSt->(R->Prop)->Prop}{hi lo:Option Expr}{wh wl:WO1}{as:List Ag}{Ko:Option Int->MSt->Prop}{Ks:Src->MSt->Prop}
theorem m9:∀{vs:List Value}{ns:List Int},IntsAre vs ns->Vals (ns.map V.int) vs
 |_,_,.nil=>.nil
 |_,_,.cons n t h=>.cons ⟨t,rfl⟩ (m9 h)
def Only(H:Hp):Prop:=∀b,H b=none\/∃o xs,H b=some (.frz o (.lst xs))
theorem zm{P:Program}{w:World}{K:PySem.W.Frag}{mb:Str->Option Value}{CX:CXT}{k:Nat}{fa:Addr}{sp:Sp}{s₁:Shared}{vs:List Value}
  (KX:K.In s₁.heap) (hns:s₁.heap.Ns mainGlobals mg) (hb:s₁.heap.Ns builtinsNs mb) (hbb:∀x:Str,x ≠ "__name__" -> mb x=bootBuiltins x) (hlim:s₁.heap.NoLimit) (hsy:∃m,s₁.heap.Ns sysModules m) (hg:s₁.gens = #[])
  (ha:s₁.heap.get? a=some {cls:=.type "list",data:=.seq vs.toArray}) (hi:IntsAre vs ns) (hl:ns.length≤sizeLine) (hr:Room k callerA)
  (F:∀base:Heap,K.In base->base.Ns mainGlobals mg->FnOk P w K mg base CX k fa fd [x] sp) (hbind:∀(s:Shared) (u:Value),BindsTo s fd ⟨[u],[]⟩ [(x,u)])
  (hsp:∀H:Hp,Only H->SqL K H a (ns.map V.int)->sp [.ref a] H (fun v _=>v = .bl true) fun _ _ _=>False)
  (hCX:∀H e s',CX [] H s₁ (fun _ _ _=>False) e s'->False) :
  codeAny (model P w) callerA (.call (.ref fa) ⟨[.ref a],[]⟩) (fun r s'=>r = .ok (.ret (.bool true))/\OldK s₁.heap s'.heap/\s'.os=s₁.os/\AllBare s'.gens) s₁:=by
 have rv:=m9 hi;have lenV:=hi.length;have core:∀H:Hp,Only H->SqL K H a (ns.map V.int)->HOk P w H s₁.heap->(∀b,H b≠none->b=a)->(H a≠none->K.lookup a=none) ->
   codeAny (model P w) callerA (.call (.ref fa) ⟨[.ref a],[]⟩) (fun r s'=>r = .ok (.ret (.bool true))/\OldK s₁.heap s'.heap/\s'.os=s₁.os/\AllBare s'.gens) s₁:=by
  intro H hO hS hok hA hK;have base_of:∀{b:Addr}{o:Obj},s₁.heap.get? b=some o->H b=none->(hidT s₁.heap H).get? b=some o:=fun e n=>zh e n;have noA:∀{b:Addr}{o:Obj}{es:Array DictEntry}{ep:Nat},s₁.heap.get? b=some o->o.data = .dict es ep->H b=none:=fun {b o es ep} e d=>by
   cases q:H b with
   |none=>rfl
   |some u =>
    have e':b=a:=hA b (by rw[q];simp);subst e';rw[ha]at e;cases e;have d':Data.seq vs.toArray _=Data.dict es ep:=d;cases d'
  have nsK:∀{b:Addr}{m:Str->Option Value},s₁.heap.Ns b m->(hidT s₁.heap H).Ns b m:=fun {b m} ⟨o,es,ep,e,d,r⟩=>⟨o,es,ep,base_of e (noA e d),d,r⟩;have hKb:K.In (hidT s₁.heap H):=fun b o e=>base_of (KX b o e) (by
   cases q:H b with
   |none=>rfl
   |some u =>
    have e':b=a:=hA b (by rw[q];simp);subst e';rw[hK (by rw[q];simp)]at e;cases e)
  have hM:Mod K mg (hidT s₁.heap H):=⟨hKb,nsK hns,⟨mb,nsK hb,hbb⟩,let ⟨mc,h1,h2⟩:=hlim;⟨mc,nsK h1,h2⟩,let ⟨m,h⟩:=hsy;⟨m,nsK h⟩⟩;have e0:Env0 P w K mg (hidT s₁.heap H) callerA [] s₁ H:=⟨rfl,hM,fun b o e=>CU e,Nat.le_of_eq (ux _ _),trivial,fun b hb=>absurd (show b∈([]:List Addr)from hb) (by simp),hok,.of_eq hg⟩;refine codeAny_mono ((F _ hKb (nsK hns)).run callerA [] s₁ H ⟨[.ref a],[]⟩ [.ref a] [.ref a] _ _ hr e0 (hbind s₁ (.ref a)) (.cons rfl .nil) (hsp H hO hS)) fun r s' h=>?_
  cases r with
  |error e=>exact(hCX H e s' h).elim
  | ok fl =>
   cases fl with
   |next=>exact False.elim h
   |brk=>exact False.elim h
   |cont=>exact False.elim h
   | ret u =>
    obtain⟨v,H',os,bare,un,hok',r',q⟩:=h;have q':v = .bl true:=q;subst q';obtain rfl:u=Value.bool true:=r';refine⟨rfl,OldK.of_keep fun b o e=>?_,os,bare⟩
    cases q:H b with
    |none=>exact un.keep b o e q (by intro z;exact absurd (show b∈([]:List Addr)from z) (by simp)) (by simp)
    |some u =>
     rcases hO b with z|⟨ob,xs,z⟩
     .rw[q]at z;cases z
     .have z2:=un.frzs b ob _ z;obtain⟨e1,_⟩:=hok b _ z;obtain⟨e2,_⟩:=hok' b _ z2;rw[e]at e1;cases e1;exact e2
 cases hk:K.lookup a with
 |some o =>
  have e:=KX a o hk;rw[ha]at e;cases e;refine core (fun _=>none) (fun _=>.inl rfl) (.inr ⟨_,vs.toArray,_,hk,rfl,rfl,rfl,by rw[List.size_toArray,lenV];exact hl,by simpa using rv⟩) (fun b u z=>by have z':(none:Option HO)=some u:=z;cases z') (fun b z=>absurd rfl z) fun z=>absurd rfl z
 | none =>
  refine core (fun b=>if b=a then some (.frz {cls:=.type "list",data:=.seq vs.toArray} (.lst (ns.map V.int)))else none) (fun b=>?_) (.inl (.inr ⟨{cls:=.type "list",data:=.seq vs.toArray},if_pos rfl⟩)) (fun b u z=>?_) (fun b z=>?_) fun _=>hk
  .by_cases hb:b=a
   .exact .inr ⟨_,_,if_pos hb⟩
   .exact .inl (if_neg hb)
  .by_cases hb:b=a
   .have z':=(if_pos hb).symm.trans z;cases z';subst hb;exact⟨ha,by rw[List.length_map];exact hl,vs,_,rv,ha⟩
   .have z':=(if_neg hb).symm.trans z;cases z'
  .by_cases hb:b=a
   .exact hb
   .exact absurd (if_neg hb) z
theorem CB{l:PySem.W.OpenLaw}{k:Nat}{q:Program}{loose:List Str}{XP:(Str->Option Value)->Heap->Prop}{YP:World->Heap->Prop}{d:DefRec}{K:Params->PySem.W.Frag}{CX:World->CXT}{sp:World->Sp}
  (hq:importsNone q=true) (hn:l.most=some n) (hn2:n≤sizeLine) (hdf:d.params.defaults=[]) (hr:Room k callerA)
  (hY:∀(w:World) (h:Heap),YP w h->(K w.params).In h)
  (F:∀(w:World) (mg:Str->Option Value) (fa:Addr) (h:Heap),(K w.params).In h->h.Ns mainGlobals mg->mg d.name=some (.ref fa) ->
   ∃fd:FuncData,(∀(s:Shared) (u:Value),BindsTo s fd ⟨[u],[]⟩ [(x,u)]) /\
    ∀base:Heap,(K w.params).In base->base.Ns mainGlobals mg->FnOk l.prog w (K w.params) mg base (CX w) k fa fd [x] (sp w))
  (hsp:∀(w:World) (H:Hp) (a:Addr) (ns:List Int),ns.length≤n->Only H->SqL (K w.params) H a (ns.map V.int)->sp w [.ref a] H (fun v _=>v = .bl true) fun _ _ _=>False)
  (hCX:∀(w:World) (H:Hp) (s:Shared) (e:Value) (s':Shared),CX w [] H s (fun _ _ _=>False) e s'->False) :
  PySem.W.WalkO q loose XP YP l.row.toRowW d [] (fun f vs=>PySem.call f vs):=by
 refine Att.attach_call hn hdf fun w s₀ s₁ mg mb fa o pm cd doc a vs ns G Y ho hd hcd hmg hobj hints hlen hg=>?_;have KX:=hY w _ Y;obtain⟨fd,hb,hF⟩:=F w mg fa _ KX G.T.g hmg;exact zm KX G.T.g G.T.b G.T.builtins G.T.nolimit (let ⟨m,h,_⟩:=(G.T.seer hq).mods;⟨m,h⟩) hg hobj hints (Nat.le_trans hlen hn2) hr hF hb (fun H hO hS=>hsp w H a ns hlen hO hS) fun H e s'=>hCX w H s₁ e s'
def jN(s:Stmt):Arguments:=match s with
 | .FunctionDef _ a _ _ _ _ _ _ _ _=>a
 |_=>{posonlyargs:=[],args:=[],vararg:=none,kwonlyargs:=[],kw_defaults:=[],kwarg:=none,defaults:=[]}
def dE(s:Stmt):List Stmt:=match s with
 | .FunctionDef _ _ b _ _ _ _ _ _ _=>b
 |_=>[]
def ad(s:Stmt):Scope:=match s with
 | .FunctionDef _ _ _ _ _ _ sc _ _ _=>sc
 |_=>{kind:=.function,names:=[],isGenerator:=false,isCoroutine:=false}
abbrev CX0:CXT:=fun _ _ _ _ _ _=>False
abbrev E0:XK:=fun _ _ _=>False
theorem KH:qF CX0 X E0:=fun _ _ _ _ _ _ _ h=>h.elim
structure Fun(K:PySem.W.Frag)(x qual:Str)(st:Stmt)(f:Addr)(fd:FuncData):Prop where
 ex:∃(oc:Value) (od:Option Addr) (kV doc pm:Value) (an:Option Addr) (cdv ct:Value) (osl:Array (Option Value)),
  fd=PySem.W.fnOf x qual (jN st) (dE st) (ad st) .none kV doc pm an cdv ct/\K.lookup f=some ⟨oc,od,.func fd,osl⟩/\PySem.W.codeIn K cdv qual=true
 kp:PySem.W.keepIn K (.ref f)=true
section
variable {P:Program}{w:World}{K:PySem.W.Frag}{mg:Str->Option Value}{base:Heap}
theorem Fun.ok{k:Nat}{sp:Sp}(F:Fun K x qual st f fd)(S:au N ps (ad st))(len:∀vs H Q E,sp vs H Q E->vs.length=ps.length)
  (hbody:∀(cdv:Value) (A:Around) (outer:List Env) (s:Shared) (H:Hp) (vs:List V) (Q:VK) (E:XK),Room k (A.deeper (envOfC qual (ad st) s.heap.objs.size f cdv))->sp vs H Q E ->
   ∃t,PSs (cxOf CX0 P w K mg base N qual (ad st) f cdv A outer s H E).nox (dE st) t/\t {nx:=fun _ H'=>Q .non H',rt:=Q} (start N vs) H):FnOk P w K mg base CX0 (k+1) f fd ps sp:=by
 obtain⟨oc,od,kV,doc,pm,an,cdv,ct,osl,rfl,lk,hcd⟩:=F.ex;refine K6 lk hcd S len fun A outer s H vs Q E hr hsp=>?_;obtain⟨t,h,q⟩:=hbody cdv A outer s H vs Q E hr hsp;exact⟨t,h.nox,q⟩
theorem Fun.binds(F:Fun K x qual st f fd)
  (h:∀(kV doc pm:Value) (an:Option Addr) (cdv ct:Value) (us:List Value),us.length=ps.length->bindArgs (PySem.W.fnOf x qual (jN st) (dE st) (ad st) .none kV doc pm an cdv ct) ⟨us,[]⟩=pure (ps.zip us)):Binds K fd ps []:=by
 obtain⟨oc,od,kV,doc,pm,an,cdv,ct,osl,rfl,lk,hcd⟩:=F.ex;exact .all (h kV doc pm an cdv ct)
theorem IW{oc:Value}{an:Option Addr}{osl:Array (Option Value)}{kV doc pm cdv ct:Value}(l:K.lookup f=some ⟨oc,od,.func (PySem.W.fnOf x qual (jN st) (dE st) (ad st) .none kV doc pm an cdv ct),osl⟩)
  (c:PySem.W.codeIn K cdv qual=true) (k:PySem.W.keepIn K (.ref f)=true):Fun K x qual st f (PySem.W.fnOf x qual (jN st) (dE st) (ad st) .none kV doc pm an cdv ct):=⟨⟨oc,od,kV,doc,pm,an,cdv,ct,osl,rfl,l,c⟩,k⟩
end
theorem iteF(h:B):if false=true then A else B:=by
 rw[if_neg Bool.false_ne_true];exact h
theorem iteT(h:A):if true=true then A else B:=by
 rw[if_pos rfl];exact h
def aP(X:Cx)(scope:Scope)(cl:List (Str×Addr))(N:List Str)(s:Shared)(H:Hp)(C:Addr)(ex:List Addr):Cx where
 prog:=X.prog
 w:=X.w
 K:=X.K
 mg:=X.mg
 base:=X.base
 A:=X.A
 N:=N
 s₀:=s
 H₀:=H
 env:=compEnvC scope cl C X.env
 outer:=X.stack
 stack:=X.stack
 ex:=ex
 fn:=fun _=>false
 calm:=X.calm
 eb:=X.eb
 pn:=[]
 xe:=fun _ _=>False
theorem iq{env:Env}:∀{names:List (Str×NameKind)}{acc:List (Str×Addr)},(∀y∈names,y.2 = .free->∃c,env.cells.lookup y.1=some c)->(∀x c,acc.lookup x=some c->env.cells.lookup x=some c) ->
  ∃cl,(forIn names acc fun(x:Str×NameKind) (cs:List (Str×Addr))=>if (x.2==NameKind.free)=true then do let c <- cellOf env x.1;pure (ForInStep.yield ((x.1,c)::cs))else pure (ForInStep.yield cs):Sem (List (Str×Addr)))=pure cl /\
   (∀x c,cl.lookup x=some c->env.cells.lookup x=some c)/\(∀y∈names,y.2 = .free->∃c,cl.lookup y.1=some c)/\(∀x,(∃c,acc.lookup x=some c)->∃c,cl.lookup x=some c)
 |[],acc,_,ha=>⟨acc,rfl,ha,fun y hy=>absurd hy (by simp),fun _ h=>h⟩
 | (n,k)::r,acc,h,ha=>by
  rw[List.forIn_cons]
  by_cases hk:k = .free
  .subst hk;obtain⟨c,hc⟩:=h (n,.free) List.mem_cons_self rfl;have hc':env.cells.lookup n=some c:=hc;have e1:cellOf env n=pure c:=by unfold cellOf;rw[hc']
   obtain⟨cl,e2,h2,h3,h4⟩:=iq (env:=env) (names:=r) (acc:=(n,c)::acc) (fun y hy=>h y (List.mem_cons_of_mem _ hy)) (fun x d hx=>by
    rw[List.lookup_cons]at hx
    cases hb:x==n with
    |true=>rw[hb]at hx;cases hx;rw[eq_of_beq hb];exact hc'
    |false=>rw[hb]at hx;exact ha x d hx)
   refine⟨cl,?_,h2,fun y hy hyk=>?_,fun x hx=>h4 x ?_⟩
   .simp only[beq_self_eq_true,if_true,e1,pure_bind];exact e2
   .obtain rfl|hy:=List.mem_cons.mp hy
    .exact h4 n ⟨c,by rw[List.lookup_cons];simp⟩
    .exact h3 y hy hyk
   .obtain⟨d,hd⟩:=hx;rw[List.lookup_cons]
    cases hb:x==n with
    |true=>exact⟨c,rfl⟩
    |false=>exact⟨d,hd⟩
  .have hb:(k==NameKind.free)=false:=by simpa using hk
   obtain⟨cl,e2,h2,h3,h4⟩:=iq (env:=env) (names:=r) (acc:=acc) (fun y hy=>h y (List.mem_cons_of_mem _ hy)) ha;refine⟨cl,?_,h2,fun y hy hyk=>?_,h4⟩
   .simp only[hb,Bool.false_eq_true,if_false,pure_bind];exact e2
   .obtain rfl|hy:=List.mem_cons.mp hy
    .exact absurd hyk hk
    .exact h3 y hy hyk
theorem d0(h:∀y∈scope.names,y.2 = .free->∃c,env.cells.lookup y.1=some c) :
  ∃cl,closureFor scope env=pure cl/\(∀x c,cl.lookup x=some c->env.cells.lookup x=some c)/\∀y∈scope.names,y.2 = .free->∃c,cl.lookup y.1=some c:=by
 obtain⟨cl,e,h1,h2,_⟩:=iq (env:=env) (names:=scope.names) (acc:=[]) h (fun x c hx=>by cases hx);refine⟨cl,?_,h1,h2⟩;simp only[closureFor];have e':=congrArg (fun(t:Sem (List (Str×Addr)))=>t >>= fun cs=>pure cs) e;simp only[pure_bind,bind_pure]at e'⊢;exact e'
def PTs(X:Cx)(ifs:List Expr)(t:TT):Prop :=
 ∀(pins:List (Addr×Obj)) (s:Shared) (σ:St) (H:Hp) (Q:Bool->Hp->Prop),Inv X pins σ H s->t σ H Q ->
  wpAny (model X.prog X.w) X.A (forIn ifs true fun c r=>if r=true then do let ok <- isTrue c X.env (eval c X.env);pure (ForInStep.yield ok)else pure (ForInStep.yield r)) (TP X pins σ Q) X.xe s
def AB:TT:=fun _ H Q=>Q true H
theorem Db:PTs X [] AB:=fun _ _ _ H _ I h=>wpAny_tests_nil ⟨H,I,h⟩
theorem BZ{t:TT}(hc:PT X c t):PTs X [c] t:=fun pins s σ H Q I h=>wpAny_tests_one (hc pins s σ H Q I h)
def PB(X:Cx)(bd:Sem PUnit)(t:TS):Prop :=
 ∀(pins:List (Addr×Obj)) (s:Shared) (σ:St) (H:Hp) (D:Ends),Inv X pins σ H s->t D σ H->wpAny (model X.prog X.w) X.A bd (fun _ s'=>∃σ' H',Inv X pins σ' H' s'/\D.nx σ' H') X.xe s
def l3(J:It)(g:TG)(tb:TS):TS:=fun D σ H=>∃W:Nat->Nat->St->Hp->Prop,(∃m,W 0 m σ H)/\∀i m σ H,W i m σ H ->
 (J.stop i H/\D.nx σ H)\/(J.go i H/\∃N:St->Hp->Prop,(∀σ' H',N σ' H'->∃m',m'<m/\W (i+1) m' σ' H')/\∀x H',J.yld i H x H'->g x σ H' fun σ2 H2=>tb {D with nx:=N,ct:=N,bk:=D.nx} σ2 H2)
def tIfT(tt:TT)(tb:TS):TS:=fun D σ H=>tt σ H fun b H1=>if b=true then tb D σ H1 else D.nx σ H1
def oJ(l:Addr)(te:TE):TS:=fun D σ H=>te σ H fun x H1=>∃xs,H1 l=some (.lst xs)/\xs.length<sizeLine/\D.nx σ (upd H1 l (.lst (xs++[x])))
theorem nV{gens:List Comprehension}{d:Nat}{it:Addr}{acc:Value}{ipos:Pos}{bd:Sem PUnit}{g:TG}{tt:TT}
  (hturn:compTurn (.ListComp elt gens scope pos) d (.ref it) acc X.env=(do
   standAt ipos
   match <- pyNext (.ref it)with
   |none=>pure (.done .next)
   | some v =>
    letOwnedTupleGo tg (.ref it) v
    assign tg X.env v
    let mut ok:=true
    for c in ifs do
     if ok then ok <- isTrue c X.env (eval c X.env)
    if ok then bd
    again (.compLoop (.ListComp elt gens scope pos) d (.ref it) acc X.env)))
  (hx:X.xe=fun _ _=>False) (hc:X.calm=true) (T:Turn X.prog X.w X.K tg J fp it tn) (hg:PG X tg g) (ht:PTs X ifs tt) (hb:PB X bd tb)
  {s:Shared} (I:Inv X pins σ H s) (st:tn 0 s.heap) (f:∀b∈fp,FpOk X pins H b) (h:l3 J g (tIfT tt tb) D σ H) :
  codeAny (model X.prog X.w) X.A (.compLoop (.ListComp elt gens scope pos) d (.ref it) acc X.env) (fun r s'=>r = .ok .next/\∃σ' H',Inv X pins σ' H' s'/\D.nx σ' H') s:=by
 obtain⟨W,⟨m0,w0⟩,turn⟩:=h;have stat:∀{H':Hp},(∀b∈fp,H' b=none)->∀b∈fp,FpOk X pins H' b:=fun hn b hb=>⟨hn b hb,(f b hb).2⟩;have nox:∀{α:Type}{t:Sem α}{Q:α->Shared->Prop}{E:Value->Shared->Prop}{s:Shared},wpAny (model X.prog X.w) X.A t Q X.xe s->wpAny (model X.prog X.w) X.A t Q E s:=fun h=>wpAny_mono h (fun _ _ q=>q) fun _ _ z=>by
  rw[hx]at z;exact z.elim
 refine codeAny_loop rfl (fun n s'=>∃i σ' H',Inv X pins σ' H' s'/\tn i s'.heap/\(∀b∈fp,H' b=none)/\W i n σ' H') ?_ m0 ⟨0,σ,H,I,st,fun b hb=>(f b hb).1,w0⟩;rintro n s3 ⟨i,σ3,H3,I3,st3,fr3,w3⟩;show wpAny _ X.A ((compTurn (.ListComp elt gens scope pos) d (.ref it) acc X.env).onRaise (fun x=>do noteFrame x X.env;theTreesLotGoes x)) _ _ s3;refine wpAny_noted ?_;rw[hturn];refine wpAny_bind (m:=standAt _) (wpAny_standAt (wpAny_bind ?_));rcases turn i n σ3 H3 w3 with⟨stop,qn⟩|⟨go,N,hN,step⟩
 .refine thn (T.done X rfl rfl rfl hc i pins s3 σ3 H3 _ I3 (stat fr3) st3 stop) fun r s4 ⟨hr,I4⟩=>?_;subst hr;exact wpAny_pure ⟨rfl,σ3,H3,I4,qn⟩
 .refine thn (T.item X rfl rfl rfl hc i pins s3 σ3 H3 _ I3 (stat fr3) st3 go) fun r s4 ⟨u,hr,h4⟩=>?_;subst hr;refine wpAny_bind (thn h4 fun _ s5 ⟨x,H5,I5,r5,y5,st5,fr5⟩=>?_);have I5':=I5.pinned (stat fr5) (T.obj _ _ st5);refine wpAny_bind (nox (thn (hg _ s5 σ3 H5 x u _ I5' r5 (step x H5 y5)) fun _ s6 ⟨σ6,H6,I6,q6⟩=>?_));refine wpAny_bind (nox (thn (ht _ s6 σ6 H6 _ I6 q6) fun ok s7 ⟨H7,I7,q7⟩=>?_));have fin:∀{σ8:St}{H8:Hp}{s8:Shared},Inv X (pins++nH fp s5.heap) σ8 H8 s8->N σ8 H8->∃m,m<n/\∃i σ' H',Inv X pins σ' H' s8/\tn i s8.heap/\(∀b∈fp,H' b=none)/\W i m σ' H':=fun {σ8 H8 s8} I8 n8=>by
   obtain⟨m',hm,w8⟩:=hN σ8 H8 n8;refine⟨m',hm,i+1,σ8,H8,I8.unpinned,T.keep _ _ _ st5 fun b hb o e=>(I8.pin (b,o) (List.mem_append_right _ (List.mem_append_right _ (fC hb e)))).1,fun b hb=>?_,w8⟩;obtain⟨o,e,_⟩:=T.obj _ _ st5 b hb;exact(I8.pin (b,o) (List.mem_append_right _ (List.mem_append_right _ (fC hb e)))).2.1
  cases ok with
  |false =>
   rw[if_neg Bool.false_ne_true]at q7;exact wpAny_pure ⟨rfl,fin I7 q7⟩
  |true =>
   rw[if_pos rfl]at q7;exact wpAny_bind (nox (thn (hb _ s7 σ6 H7 _ I7 q7) fun _ s8 ⟨σ8,H8,I8,q8⟩=>wpAny_pure ⟨rfl,fin I8 q8⟩))
theorem o5{te:TE}(he:PE X elt te):PB X (do let _ <- call (.builtin "list.append") [.ref l,<-eval elt X.env]) (oJ l te):=by
 intro pins s σ H D I h;refine wpAny_bind (thn (he pins s σ H _ I h) fun u s1 ⟨x,H1,I1,r1,xs,hl,hz,q⟩=>?_);obtain⟨hz1,its,n,rv,hv,ho⟩:=I1.lstM hl;have hsl:s1.heap.IsList l its.toArray:=⟨_,ho,rfl,_,rfl⟩;refine wpAny_bind (thn (Q:=fun _ s'=>∃σ' H',Inv X pins σ' H' s'/\D.nx σ' H') ?_ fun _ s' hq=>wpAny_pure hq);exact thn (mY (X:=X) pins s1 σ H1 (.ref l) [x] (.ref l) [u] (fun v H'=>v = .non/\D.nx σ H') I1 rfl (.cons r1 .nil) ⟨l,xs,x,rfl,rfl,hl,hz,rfl,q⟩) fun v s' ⟨_,H',I',_,_,q'⟩=>⟨σ,H',I',q'⟩
theorem dF(env:Env)(x:Str):∀names:List (Str×NameKind),(names.map fun(n,k)=>if (k==NameKind.free&&env.scope.kind == .function&&env.kindOf n==some .cell)then(n,NameKind.cell)else(n,k)).lookup x =
  (names.lookup x).map fun k=>if (k==NameKind.free&&env.scope.kind == .function&&env.kindOf x==some .cell)then NameKind.cell else k
 |[]=>rfl
 | (n,k)::r=>by
  have ih:=dF env x r;rw[List.map_cons];dsimp only
  cases hx:x==n with
  |true =>
   have e:=eq_of_beq hx;subst e
   by_cases hc:(k==NameKind.free&&env.scope.kind == .function&&env.kindOf x==some .cell)=true
   .rw[if_pos hc];simp only[List.lookup_cons,hx,Option.map_some,if_pos hc]
   .rw[if_neg hc];simp only[List.lookup_cons,hx,Option.map_some,if_neg hc]
  |false =>
   split
   .simp only[List.lookup_cons,hx];exact ih
   .simp only[List.lookup_cons,hx];exact ih
theorem fO{k:NameKind}:∀{names:List (Str×NameKind)},names.lookup x=some k->(x,k)∈names:=fun h=>PySem.mem_of_lookup h
theorem jz(hcell:∀y∈scope.names,y.2≠.cell)(h:(relabel scope env).names.lookup x=some .cell\/(relabel scope env).names.lookup x=some .free):scope.names.lookup x=some .free:=by
 unfold relabel at h;simp only[dF]at h
 cases e:scope.names.lookup x with
 |none=>rw[e]at h;rcases h with h|h<;>cases h
 | some k =>
  rw[e]at h;simp only[Option.map_some,Option.some.injEq]at h;have hk:k≠.cell:=hcell (x,k) (fO e)
  by_cases hf:k = .free
  .rw[hf]
  .have hb:(k==NameKind.free)=false:=by simpa using hf
   rw[hb]at h;simp only[Bool.false_and,Bool.false_eq_true,if_false]at h;rcases h with h|h
   .exact absurd h hk
   .rw[h]
theorem ox(h:scope.names.lookup x=some .free):(relabel scope env).names.lookup x=some .cell\/(relabel scope env).names.lookup x=some .free:=by
 unfold relabel;simp only[dF,h,Option.map_some];split
 .exact .inl rfl
 .exact .inr rfl
def f8(own:List Str)(ps:List Nat)(σ:St):St:=own.map (fun _=>none)++ps.map fun i=>(σ[i]?).join
structure bT(own fr:List Str)(scope sc:Scope):Prop where
 kind:scope.kind = .function
 nocell:∀y∈scope.names,y.2≠.cell
 names:∀y∈scope.names,y.2 = .local->scope.names.lookup y.1=some .local
 there:∀y∈scope.names,y.2 = .free->sc.names.lookup y.1=some .cell\/sc.names.lookup y.1=some .free
 fr:∀x∈fr,scope.names.lookup x=some .free
section
variable {X:Cx}{scope sc:Scope}{own fr:List Str}{ps:List Nat}
theorem jO{iter:Expr}{rest:List Comprehension}{bdy:Env->Value->Sem PUnit}{g:TG}{tt:TT}{tb:Addr->TS}{cl:List (Str×Addr)}{R:Value->Addr->Result->Shared->Prop}
  (S:bT own fr scope sc) (hsc:X.env.scope=sc) (hps:ps.map (fun i=>X.N[i]?)=fr.map some) (hc:X.calm=true) (hcl1:∀x c,cl.lookup x=some c->X.env.cells.lookup x=some c) (hcl2:∀y∈scope.names,y.2 = .free->∃c,cl.lookup y.1=some c)
  (hturn:∀env it acc,compTurn (.ListComp elt (⟨tg,iter,ifs,0⟩::rest) scope pos) 0 it acc env=(do
   standAt iter.pos
   match <- pyNext it with
   |none=>pure (.done .next)
   | some v =>
    letOwnedTupleGo tg it v
    assign tg env v
    let mut ok:=true
    for c in ifs do
     if ok=true then ok <- isTrue c env (eval c env)
    if ok then bdy env acc
    again (.compLoop (.ListComp elt (⟨tg,iter,ifs,0⟩::rest) scope pos) 0 it acc env)))
  (hg:∀s H C ex,PG (aP X scope cl (own++fr) s H C ex) tg g) (ht:∀s H C ex,PTs (aP X scope cl (own++fr) s H C ex) ifs tt)
  (hb:∀s H C ex l,PB (aP X scope cl (own++fr) s H C ex) (bdy (compEnvC scope cl C X.env) (.ref l)) (tb l))
  {s:Shared}{it:Addr} (I:Inv X pins σ H s) (T:Turn X.prog X.w X.K tg J fp it tn) (st:tn 0 s.heap) (f:∀b∈fp,FpOk X pins H b)
  (h:∀l,H l=none->l3 J g (tIfT tt (tb l)) {nx:=fun _ H'=>Q (.ref l) H',rt:=fun _ _=>False} (f8 own ps σ) (upd H l (.lst [])))
  (hR:∀l C H' s',(∃m,s'.heap.Ns C m)->Inv X pins σ H' s'->FpOk X pins H' C->Q (.ref l) H'->R (.ref l) C (.ok .next) s') :
  wpAny (model X.prog X.w) X.A (newList []) (fun acc s₃=>wpAny (model X.prog X.w) X.A (newFunctionEnv scope X.env.globals cl [] X.env.qual none .none (some X.env)) (fun cenv s₄ =>
   codeAny (model X.prog X.w) X.A (.compStart (.ListComp elt (⟨tg,iter,ifs,0⟩::rest) scope pos) 0 (.ref it) acc {cenv with scope:=relabel scope X.env}) (R acc cenv.locals) s₄) E s₃) E s:=by
 refine wpAny_newObj_type (wpAny_newFunctionEnv S.nocell (by intro y hy;simp at hy) (fun h₁ hns₁ hsb₁=>?_) S.kind);have I3:Inv X pins σ (upd H s.heap.objs.size (.lst [])) {s with heap:=s.heap.push {cls:=.type "list",data:=.seq ([]:List Value).toArray} }:=I.lnew (t':=s.toks) (ys:=[]) .nil (Nat.zero_le _);generalize hS3:({s with heap:=s.heap.push {cls:=.type "list",data:=.seq ([]:List Value).toArray} }:Shared)=s3 at I3 hns₁ hsb₁⊢;have hsz:s3.heap.objs.size=s.heap.objs.size+1:=by rw[<-hS3];exact Heap.size_push _ _
 have hl:H s.heap.objs.size=none:=I.hok.fresh (Nat.le_refl _);have kept0:∀b o,s.heap.get? b=some o->s3.heap.get? b=some o:=fun b o e=>by rw[<-hS3];exact Heap.get?_push_of_some _ e
 have kept1:∀b o,s3.heap.get? b=some o->h₁.get? b=some o:=fun b o e=>hsb₁.extBut b o (Nat.ne_of_lt (Heap.lt_size e)) (Heap.get?_push_of_some _ e);have fpl:∀b∈fp,b<s.heap.objs.size:=fun b hb=>by obtain⟨o,e,_⟩:=T.obj _ _ st b hb;exact Heap.lt_size e
 have fpH:∀b∈fp,(upd H s.heap.objs.size (.lst [])) b=none:=fun b hb=>by rw[aw (Nat.ne_of_lt (fpl b hb))];exact(f b hb).1
 have fpS:∀b∈fp,b∉frs X.stack:=fun b hb z=>by
  rcases List.mem_cons.mp (I.stkSub b z)with e|e
  .exact(f b hb).2.1 e
  .exact(f b hb).2.2.1 e
 have ok':(aP X scope cl (own++fr) s3 (upd H s.heap.objs.size (.lst [])) s3.heap.objs.size fp).Ok:=by
  refine⟨I.ok.mod,S.kind,I.ok.glob,I.ok.blt,Nat.le_refl _,fun x y c h1 h2=>I.ok.inj x y c (hcl1 x c h1) (hcl1 y c h2),fun x hx=>?_,fun x c hf=>(by cases hf),I.ok.hd,I.ok.frames,.inl rfl,fun b hb=>⟨?_,fun x c hx=>(f b hb).2.2.2.2.1 x c (hcl1 x c hx)⟩,
   fun b o e=>I3.bs b o e,Nat.le_trans I3.ok.bsz I3.sz,fun b o e hb=>?_,fun b hb=>fpS b hb,I3.stack,I3.stkFree⟩
  .exact hcl2 (x,.free) (fO (jz S.nocell hx)) rfl
  .exact Nat.ne_of_lt (Nat.lt_of_lt_of_le (fpl b hb) (by rw[hsz];exact Nat.le_succ _))
  .rcases (f b hb).2.2.2.1 with z|z
   .exact I.ok.noex b o e z
   .exact absurd (Nat.lt_of_lt_of_le (Heap.lt_size (I.ok.bs b o e).1) z) (Nat.lt_irrefl _)
 have I4:Inv (aP X scope cl (own++fr) s3 (upd H s.heap.objs.size (.lst [])) s3.heap.objs.size fp) [] (f8 own ps σ) (upd H s.heap.objs.size (.lst [])) {s3 with heap:=h₁,toks:=s3.toks+([]:List (Str×Value)).length}:=by
  refine⟨ok',rfl,I3.bare,Un.kept kept1,⟨_,hns₁,fun i x v e1 e2 e3=>?_⟩,fun x c e=>?_,I3.hok.fresh (Nat.le_refl _),fun x c e=>I3.freeC x c (hcl1 x c e),fun p hp=>absurd (show p∈([]:List (Addr×Obj))from hp) (by simp),I3.hok.kept kept1,?_⟩
  .have e1':(own++fr)[i]?=some x:=e1;unfold f8 at e2
   by_cases hi:i<own.length
   .rw[List.getElem?_append_left (by simpa using hi),List.getElem?_map]at e2
    cases q:own[i]? with
    |none=>rw[q]at e2;cases e2
    |some z=>rw[q]at e2;cases e2
   .rw[List.getElem?_append_right (by simpa using hi),List.length_map,List.getElem?_map]at e2;rw[List.getElem?_append_right (by simpa using hi)]at e1'
    cases q:ps[i-own.length]? with
    |none=>rw[q]at e2;cases e2
    | some p =>
     rw[q]at e2;have e2':(σ[p]?).join=some v:=Option.some.inj e2;have hσ:σ[p]?=some (some v):=by
      cases z:σ[p]? with
      |none=>rw[z]at e2';cases e2'
      |some w=>rw[z]at e2';cases w with
       |none=>cases e2'
       |some w=>cases e2';rfl
     have hN:X.N[p]?=some x:=by
      have z:=congrArg (fun l=>l[i-own.length]?) hps;simp only[List.getElem?_map,q,e1',Option.map_some,Option.some.injEq]at z;exact z
     have hx:x∈fr:=List.mem_of_getElem? e1';have hfr:=S.fr x hx;have hsee:=S.there (x,.free) (fO hfr) rfl;obtain⟨m,hn,hlk⟩:=I3.loc;obtain⟨u,ru,lk⟩:=hlk p x v hN hσ (by rw[hsc];exact .inr hsee);refine⟨u,ru,.inr ⟨ox hfr,?_⟩⟩;rcases lk with⟨k,_⟩|⟨_,c,ec,z⟩
     .have k':X.env.scope.names.lookup x=some .local:=k;rw[hsc]at k';rcases hsee with q2|q2<;>(rw[k']at q2;cases q2)
     .obtain⟨c',ec'⟩:=hcl2 (x,.free) (fO hfr) rfl;have:=hcl1 x c' ec';rw[ec]at this;cases this;obtain⟨o,ho,hd⟩:=z;exact⟨c,ec',o,kept1 _ _ ho,hd⟩
  .obtain⟨v,o,ho,hd⟩:=I3.cell x c (hcl1 x c e);exact⟨v,o,kept1 _ _ ho,hd⟩
  .show(f8 own ps σ).length=(own++fr).length;have:=congrArg List.length hps;rw[List.length_map,List.length_map]at this;unfold f8;rw[List.length_append,List.length_append,List.length_map,List.length_map,this]
 have f4:∀b∈fp,FpOk (aP X scope cl (own++fr) s3 (upd H s.heap.objs.size (.lst [])) s3.heap.objs.size fp) [] (upd H s.heap.objs.size (.lst [])) b:=fun b hb =>
  ⟨fpH b hb,(ok'.exf b hb).1,fpS b hb,.inl hb,(ok'.exf b hb).2,fun p hp=>absurd (show p∈([]:List (Addr×Obj))from hp) (by simp)⟩
 have st4:tn 0 h₁:=T.keep 0 _ _ st fun b hb o e=>kept1 b o (kept0 b o e);have loop:codeAny (model X.prog X.w) X.A (.compLoop (.ListComp elt (⟨tg,iter,ifs,0⟩::rest) scope pos) 0 (.ref it) (.ref s.heap.objs.size) (compEnvC scope cl s3.heap.objs.size X.env)) (R (.ref s.heap.objs.size) s3.heap.objs.size) {s3 with heap:=h₁,toks:=s3.toks+([]:List (Str×Value)).length}:=by
  refine codeAny_mono (nV (X:=aP X scope cl (own++fr) s3 (upd H s.heap.objs.size (.lst [])) s3.heap.objs.size fp) (hturn _ _ _) rfl hc T (hg _ _ _ _) (ht _ _ _ _) (hb _ _ _ _ _) I4 st4 f4 (h _ hl)) fun r s' ⟨er,σ5,H5,I5,q5⟩=>?_;subst er;have I6:Inv X pins σ H5 s':=I3.call' (s':=s') I5.os I5.base I5.hok I5.bare fun b hb=>⟨(f b hb).2.2.2.1,(f b hb).2.1,(f b hb).2.2.2.2.1,(f b hb).2.2.2.2.2⟩;have hm:∃m,s'.heap.Ns s3.heap.objs.size m:=let ⟨m,hn,_⟩:=I5.loc;⟨m,hn⟩;exact hR _ _ H5 s' hm I6 (I3.fpOk (Nat.le_refl _) I5.free) q5
 exact codeAny_compStart_list loop (T.self _ 0 _ _ _ st4 loop)
def u4(wi:TI)(own:List Str)(ps:List Nat)(tl:Addr->It->TS):TE:=fun σ H Q=>wi σ H fun J H1=>∀l,H1 l=none->tl l J {nx:=fun _ H'=>Q (.ref l) H',rt:=fun _ _=>False} (f8 own ps σ) (upd H1 l (.lst []))
def tl1(g:TG)(tt:TT)(te:TE):Addr->It->TS:=fun l J=>l3 J g (tIfT tt (oJ l te))
def tl2(g:TG)(tt:TT)(wi2:TI)(g2:TG)(tt2:TT)(te:TE):Addr->It->TS:=fun l J=>l3 J g (tIfT tt fun D σ H=>wi2 σ H fun J2 H1=>l3 J2 g2 (tIfT tt2 (oJ l te)) D σ H1)
theorem ye{Y:Cx}{tg1 iter1 tg2 iter2:Expr}{ifs1 ifs2:List Expr}{wi2:TI}{g2:TG}{tt2:TT}{te:TE}(hx:Y.xe=fun _ _=>False)(hc:Y.calm=true)(hi:PI Y tg2 iter2 wi2)(hg:PG Y tg2 g2)(ht:PTs Y ifs2 tt2)(he:PE Y elt te)
  (hs:∀x,foldedSetIterable iter2 Y.env x=pure x) :
  PB Y (do
   let x <- eval iter2 Y.env
   standAt iter2.pos
   let x <- foldedSetIterable iter2 Y.env x
   let _ <- runOwn (.compStart (.ListComp elt [⟨tg1,iter1,ifs1,0⟩,⟨tg2,iter2,ifs2,0⟩] scope pos) 1 (<- holding [x] (pyIter x)) (.ref l) Y.env) Y.env) (fun D σ H=>wi2 σ H fun J2 H1=>l3 J2 g2 (tIfT tt2 (oJ l te)) D σ H1):=by
 intro pins s σ H D I h;refine wpAny_bind (thn (hi pins s σ H _ I h) fun v s1 h1=>?_);refine wpAny_bind (wpAny_standAt (wpAny_bind (wpAny_of_eq (hs v) (wpAny_bind (wpAny_holding (thn h1 fun itv s2 h2=>?_))))));obtain⟨it,fp,tn,J,H2,e,I2,T,st2,f2,q⟩:=h2;subst e;have loop:∀s3,s3=s2->codeAny (model Y.prog Y.w) Y.A (.compLoop (.ListComp elt [⟨tg1,iter1,ifs1,0⟩,⟨tg2,iter2,ifs2,0⟩] scope pos) 1 (.ref it) (.ref l) Y.env) (fun r s'=>match r with| .ok f=>wpAny (model Y.prog Y.w) Y.A (pure PUnit.unit) (fun _ s'=>∃σ' H',Inv Y pins σ' H' s'/\D.nx σ' H') Y.xe s' | .error e=>cameBackBy (model Y.prog Y.w) Y.A Y.env Y.xe e s') s3:=by
  rintro s3 rfl;refine codeAny_mono (nV (X:=Y) (elt:=elt) (gens:=[⟨tg1,iter1,ifs1,0⟩,⟨tg2,iter2,ifs2,0⟩]) (scope:=scope) (pos:=pos) (d:=1) (acc:=.ref l) (ipos:=iter2.pos) (ifs:=ifs2)
   (bd:=do let _ <- call (.builtin "list.append") [.ref l,<-eval elt Y.env]) rfl hx hc T hg ht (o5 he) I2 st2 f2 q) fun r s' ⟨er,hq⟩=>?_
  subst er;exact wpAny_pure hq
 refine wpAny_bind (wpAny_runOwn ?_);show codeAny (model Y.prog Y.w) Y.A _ _ s2;refine codeAny_of_tree ?_;show wpAny _ _ ((compStart (.ListComp elt [⟨tg1,iter1,ifs1,0⟩,⟨tg2,iter2,ifs2,0⟩] scope pos) 1 (.ref it) (.ref l) Y.env).onRaise (fun x=>do noteFrame x Y.env;standAt theWindowsPlace)) _ _ s2;refine wpAny_notedAt ?_;unfold compStart;show wpAny _ _ (ask >>= _) _ _ s2;refine wpAny_bind (m:=ask) (wpAny_askSetting (wpAny_ite ?_));split
 .first
   |exact wpAny_bind (wpAny_pure (wpAny_pure (And.intro rfl (loop _ rfl))))
   |exact wpAny_pure (And.intro rfl (loop _ rfl))
 .first
   |exact wpAny_bind (wpAny_rule (wpAny_bind (wpAny_standAt (wpAny_bind (T.self _ 0 _ _ _ st2 (wpAny_pure (And.intro rfl (loop _ rfl))))))))
   |(refine wpAny_bind (wpAny_rule ?_);show wpAny _ _ (standAt iter2.pos >>= _) _ _ s2;exact wpAny_bind (wpAny_standAt (wpAny_bind (T.self _ 0 _ _ _ st2 (wpAny_pure (And.intro rfl (loop _ rfl)))))))
theorem Inv.junk{s:Shared}{C:Addr}(I:Inv X pins σ H s)(f:FpOk X pins H C){h':Heap}(hs:Heap.SameBut C s.heap h'):Inv X pins σ H {s with heap:=h' } :=
 I.turned (t':=s.toks) (it:=C) (fun b o ne e=>(hs.2 b ne).trans e) f.1 f.2.1 f.2.2.2.1 f.2.2.2.2.1 f.2.2.2.2.2
variable {elt tg iter:Expr}{ifs:List Expr}{pos spos py:Pos}{wi:TI}{g:TG}{tt:TT}{te:TE}
theorem mi{s:Shared}(S:bT own fr scope sc)(hsc:X.env.scope=sc)(I:Inv X pins σ H s):∀y∈scope.names,y.2 = .free->∃c,X.env.cells.lookup y.1=some c:=fun y hy hk =>
 I.ok.has y.1 (by show X.env.scope.names.lookup y.1=_\/X.env.scope.names.lookup y.1=_;rw[hsc];exact S.there y hy hk)
theorem y3(S:bT own fr scope sc)(hi:PI X tg iter wi)(hg:∀cl s H C ex,PG (aP X scope cl (own++fr) s H C ex) tg g)(ht:∀cl s H C ex,PTs (aP X scope cl (own++fr) s H C ex) ifs tt)
  (he:∀cl s H C ex,PE (aP X scope cl (own++fr) s H C ex) elt te) (hsc:X.env.scope=sc:=by rfl) (hps:ps.map (fun i=>X.N[i]?)=fr.map some:=by rfl) (hc:X.calm=true:=by rfl) (hs:∀x,foldedSetIterable iter X.env x=pure x:=by intro _;rfl) :
  PE X (.ListComp elt [⟨tg,iter,ifs,0⟩] scope pos) (u4 wi own ps (tl1 g tt te)):=by
 intro pins s σ H Q I h;obtain⟨cl,ec,h1,h2⟩:=d0 (mi S hsc I);rw[eval_ListComp];refine wpAny_comprehension_free (use:=none) rfl hs ec S.kind S.names (thn (hi pins s σ H _ I h) fun v s1 q1=>thn q1 fun itv s2 q2=>?_);obtain⟨it,fp,tn,J,H2,e,I2,T,st2,f2,q⟩:=q2;subst e;exact jO (R:=fun acc C=>compPost (model X.prog X.w) X.A X.xe none (EP X pins σ Q) acc C) (bdy:=fun env acc=>do let _ <- call (.builtin "list.append") [acc,<-eval elt env]) (tb:=fun l=>oJ l te) S hsc hps hc h1 h2 (fun env it acc=>compTurn_list elt tg iter ifs scope pos it acc env)
  (hg cl) (ht cl) (fun s H C ex l=>o5 (he cl s H C ex)) I2 T st2 f2 q fun l C H' s' hm I' fk q'=>by
   obtain⟨m,hn⟩:=hm;exact⟨m,hn,fun h' hs'=>⟨.ref l,H',I'.junk fk hs',rfl,q'⟩⟩
theorem nW{s':Shared}{C:Addr}{Q:St->Hp->Prop}(hN:X.N.Nodup)(hy:X.N[i]?=some y)(hlc:X.env.scope.names.lookup y=some .local)(hm:∃m,s'.heap.Ns C m)(I:Inv X pins σ H' s')(fk:FpOk X pins H' C)(q:Q (σ.set i (some (.ref l))) H') :
  wpAny (model X.prog X.w) X.A (assign (.Name y py) X.env (.ref l)) (fun _ s''=>∃m,s''.heap.Ns C m/\∀h',Heap.SameBut C s''.heap h'->∃σ' H'',Inv X pins σ' H'' {s'' with heap:=h' }/\Q σ' H'') E s':=by
 obtain⟨m,hn⟩:=hm;refine wpAny_assign_Name (nK I hN hy (.inl hlc) (v:=.ref l) rfl (fun s'' I'' ⟨a,hs,ha⟩=>?_) (.inr hlc));have hCa:C≠a:=by
  rcases ha with ha|ha
  .rw[ha];exact fk.2.1
  .exact fun z=>fk.2.2.2.2.1 _ _ ha z.symm
 exact⟨m,hn.sameBut hs hCa,fun h' hs'=>⟨_,H',I''.junk fk hs',q⟩⟩
theorem za(S:bT own fr scope sc)(hN:X.N.Nodup)(hy:X.N[i]?=some y)(hlc:X.env.scope.names.lookup y=some .local)(hi:PI X tg iter wi)(hg:∀cl s H C ex,PG (aP X scope cl (own++fr) s H C ex) tg g)(ht:∀cl s H C ex,PTs (aP X scope cl (own++fr) s H C ex) ifs tt)
  (he:∀cl s H C ex,PE (aP X scope cl (own++fr) s H C ex) elt te) (hsw:swapsWith (.ListComp elt [⟨tg,iter,ifs,0⟩] scope pos) (some (.Name y py)) spos.line X.env=pure true:=by rfl)
  (hsc:X.env.scope=sc:=by rfl) (hps:ps.map (fun i=>X.N[i]?)=fr.map some:=by rfl) (hc:X.calm=true:=by rfl) (hs:∀x,foldedSetIterable iter X.env x=pure x:=by intro _;rfl) :
  PS X (.Assign [.Name y py] (.ListComp elt [⟨tg,iter,ifs,0⟩] scope pos) spos) (tAsg (u4 wi own ps (tl1 g tt te)) (yq i)):=by
 intro pins s σ H D I h;obtain⟨cl,ec,h1,h2⟩:=d0 (mi S hsc I);rw[show exec _ X.env=_ from exec_Assign_Name_used _ _ _ _ hsw];refine wpAny_bind (m:=standAt _) (wpAny_standAt (wpAny_bind ?_));show wpAny _ X.A (do let _ <- comprehension (.ListComp elt [⟨tg,iter,ifs,0⟩] scope pos) scope X.env _ (newList []) false (eval iter X.env) (some (assign (.Name y py) X.env))) _ _ s;refine wpAny_bind (wpAny_mono (wpAny_comprehension_free (use:=some (assign (.Name y py) X.env)) (Q:=fun _ s'=>SP X pins D .next s') rfl hs ec S.kind S.names (thn (hi pins s σ H _ I h) fun v s1 q1=>thn q1 fun itv s2 q2=>?_)) (fun _ s' hq=>wpAny_pure (wpAny_pure hq)) fun _ _ e=>e);obtain⟨it,fp,tn,J,H2,e,I2,T,st2,f2,q⟩:=q2;subst e;exact jO (Q:=fun v H'=>D.nx (σ.set i (some v)) H') (R:=fun acc C=>compPost (model X.prog X.w) X.A X.xe (some (assign (.Name y py) X.env)) (fun _ s'=>SP X pins D .next s') acc C) (bdy:=fun env acc=>do let _ <- call (.builtin "list.append") [acc,<-eval elt env]) (tb:=fun l=>oJ l te) S hsc hps hc h1 h2 (fun env it acc=>compTurn_list elt tg iter ifs scope pos it acc env)
  (hg cl) (ht cl) (fun s H C ex l=>o5 (he cl s H C ex)) I2 T st2 f2 q fun l C H' s' hm I' fk q'=>nW hN hy hlc hm I' fk q'
variable {tg2 iter2:Expr}{ifs2:List Expr}{wi2:TI}{g2:TG}{tt2:TT}
theorem kq(elt target iter:Expr)(ifs:List Expr)(tg2 iter2:Expr)(ifs2:List Expr)(scope:Scope)(pos:Pos)(it acc:Value)(env:Env) :
  compTurn (.ListComp elt [⟨target,iter,ifs,0⟩,⟨tg2,iter2,ifs2,0⟩] scope pos) 0 it acc env=(do
   standAt iter.pos
   match <- pyNext it with
   |none=>pure (.done .next)
   | some v =>
    letOwnedTupleGo target it v
    assign target env v
    let mut ok:=true
    for c in ifs do
     if ok=true then ok <- isTrue c env (eval c env)
    if ok then
     (do
      let x <- eval iter2 env
      standAt iter2.pos
      let x <- foldedSetIterable iter2 env x
      let _ <- runOwn (.compStart (.ListComp elt [⟨target,iter,ifs,0⟩,⟨tg2,iter2,ifs2,0⟩] scope pos) 1 (<- holding [x] (pyIter x)) acc env) env)
    again (.compLoop (.ListComp elt [⟨target,iter,ifs,0⟩,⟨tg2,iter2,ifs2,0⟩] scope pos) 0 it acc env)):=by
 unfold compTurn;simp only[List.getElem?_cons_zero,List.getElem?_cons_succ,Nat.zero_add,bind_assoc,pure_bind,bne_self_eq_false,Bool.false_eq_true,if_false];rfl
theorem xT(S:bT own fr scope sc)(hN:X.N.Nodup)(hy:X.N[i]?=some y)(hlc:X.env.scope.names.lookup y=some .local)(hi:PI X tg iter wi)(hg:∀cl s H C ex,PG (aP X scope cl (own++fr) s H C ex) tg g)(ht:∀cl s H C ex,PTs (aP X scope cl (own++fr) s H C ex) ifs tt)
  (hi2:∀cl s H C ex,PI (aP X scope cl (own++fr) s H C ex) tg2 iter2 wi2) (hg2:∀cl s H C ex,PG (aP X scope cl (own++fr) s H C ex) tg2 g2) (ht2:∀cl s H C ex,PTs (aP X scope cl (own++fr) s H C ex) ifs2 tt2)
  (he:∀cl s H C ex,PE (aP X scope cl (own++fr) s H C ex) elt te) (hsw:swapsWith (.ListComp elt [⟨tg,iter,ifs,0⟩,⟨tg2,iter2,ifs2,0⟩] scope pos) (some (.Name y py)) spos.line X.env=pure true:=by rfl)
  (hsc:X.env.scope=sc:=by rfl) (hps:ps.map (fun i=>X.N[i]?)=fr.map some:=by rfl) (hc:X.calm=true:=by rfl) (hs:∀x,foldedSetIterable iter X.env x=pure x:=by intro _;rfl)
  (hs2:∀cl C x,foldedSetIterable iter2 (compEnvC scope cl C X.env) x=pure x:=by intro _ _ _;rfl) :
  PS X (.Assign [.Name y py] (.ListComp elt [⟨tg,iter,ifs,0⟩,⟨tg2,iter2,ifs2,0⟩] scope pos) spos) (tAsg (u4 wi own ps (tl2 g tt wi2 g2 tt2 te)) (yq i)):=by
 intro pins s σ H D I h;obtain⟨cl,ec,h1,h2⟩:=d0 (mi S hsc I);rw[show exec _ X.env=_ from exec_Assign_Name_used _ _ _ _ hsw];refine wpAny_bind (m:=standAt _) (wpAny_standAt (wpAny_bind ?_));show wpAny _ X.A (do let _ <- comprehension (.ListComp elt [⟨tg,iter,ifs,0⟩,⟨tg2,iter2,ifs2,0⟩] scope pos) scope X.env _ (newList []) false (eval iter X.env) (some (assign (.Name y py) X.env))) _ _ s;refine wpAny_bind (wpAny_mono (wpAny_comprehension_free (use:=some (assign (.Name y py) X.env)) (Q:=fun _ s'=>SP X pins D .next s') rfl hs ec S.kind S.names (thn (hi pins s σ H _ I h) fun v s1 q1=>thn q1 fun itv s2 q2=>?_)) (fun _ s' hq=>wpAny_pure (wpAny_pure hq)) fun _ _ e=>e);obtain⟨it,fp,tn,J,H2,e,I2,T,st2,f2,q⟩:=q2;subst e;exact jO (Q:=fun v H'=>D.nx (σ.set i (some v)) H') (R:=fun acc C=>compPost (model X.prog X.w) X.A X.xe (some (assign (.Name y py) X.env)) (fun _ s'=>SP X pins D .next s') acc C) (tb:=fun l D σ H=>wi2 σ H fun J2 H1=>l3 J2 g2 (tIfT tt2 (oJ l te)) D σ H1) S hsc hps hc h1 h2 (fun env it acc=>kq elt tg iter ifs tg2 iter2 ifs2 scope pos it acc env)
  (hg cl) (ht cl) (fun s H C ex l=>ye (Y:=aP X scope cl (own++fr) s H C ex) rfl hc (hi2 cl s H C ex) (hg2 cl s H C ex) (ht2 cl s H C ex) (he cl s H C ex) (hs2 cl C)) I2 T st2 f2 q fun l C H' s' hm I' fk q'=>nW hN hy hlc hm I' fk q'
end
def FzL(K:PySem.W.Frag)(H:Hp)(a:Addr)(xs:List V):Prop :=
 (∃o,H a=some (.frz o (.lst xs))) \/
  ∃(o:Obj) (its:Array Value) (n:Nat),K.lookup a=some o/\o.cls = .type "list" /\ o.dict=none/\o.data = .seq its n/\its.size≤sizeLine/\Vals xs its.toList
theorem FzL.sq{K:PySem.W.Frag}(h:FzL K H a xs):SqL K H a xs:=by
 rcases h with⟨o,h⟩|h
 .exact .inl (.inr ⟨o,h⟩)
 .exact .inr h
structure Kd where
 K:PySem.W.Frag
 w:World
instance:Coe Kd PySem.W.Frag:=⟨Kd.K⟩
mutual
def dH(w:World):PyData->Int
 | .int i=>hashInt i
 | .str x=>hashStr w x
 | .tuple ds=>reduceHash (Builtin.Tuple.tupleHashOf (gv w ds))
 |_=>0
def gv(w:World):List PyData->List Int
 |[]=>[]
 |d::ds=>dH w d::gv w ds
end
mutual
def hkD:PyData->Bool
 | .int _=>true
 | .str _=>true
 | .tuple ds=>hkA ds
 |_=>false
def hkA:List PyData->Bool
 |[]=>true
 |d::ds=>hkD d&&hkA ds
end
def isKd(kvs:List (PyData×PyData)):Bool:=kvs.all fun kv=>match kv.1 with| .int _=>true | .str _=>true|_=>false
def uF(kvs:List (PyData×PyData)):Prop:=isKd kvs=false/\(kvs.map (·.1)).Nodup/\∀k∈kvs.map (·.1),hkD k=true
def dXp(a:Addr)(es:List (Int×V×V))(h:Heap):Prop :=
 (a==sysModules)=false/\es.length≤sizeLine/\∃(o:Obj) (ents:Array DictEntry) (ep:Nat),h.get? a=some o/\o.ExactDict/\o.data = .dict ents ep /\
  Paired (fun(e:Int×V×V) (d:DictEntry)=>d.hash=e.1/\RelV e.2.1 d.key/\RelV e.2.2 d.val) es ents.toList
abbrev dX(a:Addr)(es:List (Int×V×V)):HO:=.ext (dXp a es)
def FzD(H:Hp)(a:Addr)(es:List (Int×V×V)):Prop:=∃o,H a=some (.frz o (dX a es))
def ClsN(K:Kd)(c:Str)(C:Addr):Prop:=PySem.W.nsIn K.K mainGlobals c=some (some (.ref C))
def J8(K:Kd)(H:Hp)(a:Addr)(c:Str)(xs:List (Str×V)):Prop :=
 ∃(o:Obj) (u:HO) (C:Addr),H a=some (.frz o u)/\o.cls = .ref C/\(∃vs,o.data = .fields vs)/\ClsN K c C/\((o.dict=none/\xs=[])\/∃(dx:Addr) (od:Obj),o.dict=some dx/\H dx=some (.frz od (.xd xs)))
def keyD:Key->PyData
 | .inl i=>.int i
 | .inr x=>.str x
def excC:List (PyData×PyData)->Option Str
 |(.none,.str c)::_=>some c
 |_=>none
mutual
def Den(K:Kd)(H:Hp):PyData->V->Prop
 | .none,v=>v = .non
 | .bool b,v=>v = .bl b
 | .int i,v=>v = .int i
 | .str x,v=>v = .str x
 | .list ds,v=>∃a xs,v = .ref a/\FzL K H a xs/\DenAll K H ds xs
 | .tuple ds,v=>∃a xs,v = .ref a/\SqT K H a xs/\DenAll K H ds xs
 | .dict kvs,v=>∃a,v = .ref a/\((∃es,FzD H a es/\uF kvs/\DenKV K H kvs es)\/(∃es o,H a=some (.frz o (.dK es))/\DenKK K H kvs es)\/∃c xs,excC kvs=some c/\J8 K H a c xs/\DenXF K H kvs xs)
def DenAll(K:Kd)(H:Hp):List PyData->List V->Prop
 |[],xs=>xs=[]
 |d::ds,xs=>∃v vs,xs=v::vs/\Den K H d v/\DenAll K H ds vs
def DenKV(K:Kd)(H:Hp):List (PyData×PyData)->List (Int×V×V)->Prop
 |[],es=>es=[]
 |(k,d)::r,es=>∃u v vs,es=(dH K.w k,u,v)::vs/\Den K H k u/\Den K H d v/\DenKV K H r vs
def DenKK(K:Kd)(H:Hp):List (PyData×PyData)->List (Key×V)->Prop
 |[],es=>es=[]
 |(k,d)::r,es=>∃kk v vs,es=(kk,v)::vs/\(k=keyD kk/\∀x∈vs,x.1≠kk)/\Den K H d v/\DenKK K H r vs
def DenXF(K:Kd)(H:Hp):List (PyData×PyData)->List (Str×V)->Prop
 |[],xs=>xs=[]
 |(k,d)::r,xs=>match k with
  | .str f=>∃v vs,xs=(f,v)::vs/\Den K H d v/\DenXF K H r vs
  |_=>DenXF K H r xs
end
structure Pers(H H':Hp):Prop where
 tups:∀b xs,H b=some (.tup xs)->H' b=some (.tup xs)
 frzs:∀b o u,H b=some (.frz o u)->H' b=some (.frz o u)
theorem Pers.trans(a:Pers H H1)(b:Pers H1 H2):Pers H H2:=⟨fun c xs e=>b.tups c xs (a.tups c xs e),fun c o u e=>b.frzs c o u (a.frzs c o u e)⟩
section
variable {K:Kd}{H H':Hp}
theorem FzL.mono(p:Pers H H')(h:FzL K H a xs):FzL K H' a xs:=by
 rcases h with⟨o,h⟩|h
 .exact .inl ⟨o,p.frzs _ _ _ h⟩
 .exact .inr h
theorem SqT.mono(p:Pers H H')(h:SqT K H a xs):SqT K H' a xs:=by
 rcases h with(h|⟨o,h⟩)|h
 .exact .inl (.inl (p.tups _ _ h))
 .exact .inl (.inr ⟨o,p.frzs _ _ _ h⟩)
 .exact .inr h
mutual
theorem Den.mono(p:Pers H H'):∀{d:PyData}{v:V},Den K H d v->Den K H' d v
 | .none,_,h=>h
 | .bool _,_,h=>h
 | .int _,_,h=>h
 | .str _,_,h=>h
 | .list ds,_,h=>by
  simp only[Den]at h⊢;obtain⟨a,xs,e,f,g⟩:=h;exact⟨a,xs,e,f.mono p,DenAll.mono p g⟩
 | .tuple ds,_,h=>by
  simp only[Den]at h⊢;obtain⟨a,xs,e,f,g⟩:=h;exact⟨a,xs,e,f.mono p,DenAll.mono p g⟩
 | .dict kvs,_,h=>by
  simp only[Den]at h⊢;obtain⟨a,e,h⟩:=h;refine⟨a,e,?_⟩;rcases h with⟨es,⟨o,f⟩,kk,g⟩|⟨es,o,f,g⟩|⟨c,xs,ec,⟨o,u,C,f1,f2,f0,f3,f4⟩,g⟩
  .exact .inl ⟨es,⟨o,p.frzs _ _ _ f⟩,kk,DenKV.mono p g⟩
  .exact .inr (.inl ⟨es,o,p.frzs _ _ _ f,DenKK.mono p g⟩)
  .refine .inr <| .inr ⟨c,xs,ec,⟨o,u,C,p.frzs _ _ _ f1,f2,f0,f3,?_⟩,DenXF.mono p g⟩;rcases f4 with f4|⟨dx,od,f5,f6⟩
   .exact .inl f4
   .exact .inr ⟨dx,od,f5,p.frzs _ _ _ f6⟩
theorem DenAll.mono(p:Pers H H'):∀{ds:List PyData}{xs:List V},DenAll K H ds xs->DenAll K H' ds xs
 |[],_,h=>h
 |d::ds,_,h=>by
  simp only[DenAll]at h⊢;obtain⟨v,vs,e,f,g⟩:=h;exact⟨v,vs,e,Den.mono p f,DenAll.mono p g⟩
theorem DenKV.mono(p:Pers H H'):∀{ds:List (PyData×PyData)}{xs:List (Int×V×V)},DenKV K H ds xs->DenKV K H' ds xs
 |[],_,h=>by simpa only[DenKV]using h
 |(k,d)::r,_,h=>by
  simp only[DenKV]at h⊢;obtain⟨u,v,vs,e,f1,f2,g⟩:=h;exact⟨u,v,vs,e,Den.mono p f1,Den.mono p f2,DenKV.mono p g⟩
theorem DenKK.mono(p:Pers H H'):∀{ds:List (PyData×PyData)}{xs:List (Key×V)},DenKK K H ds xs->DenKK K H' ds xs
 |[],_,h=>by simpa only[DenKK]using h
 |(k,d)::r,_,h=>by
  simp only[DenKK]at h⊢;obtain⟨u,v,vs,e,f1,f2,g⟩:=h;exact⟨u,v,vs,e,f1,Den.mono p f2,DenKK.mono p g⟩
theorem DenXF.mono(p:Pers H H'):∀{ds:List (PyData×PyData)}{xs:List (Str×V)},DenXF K H ds xs->DenXF K H' ds xs
 |[],_,h=>by simpa only[DenXF]using h
 |(.str f,d)::r,_,h=>by
  simp only[DenXF]at h⊢;obtain⟨v,vs,e,f1,g⟩:=h;exact⟨v,vs,e,Den.mono p f1,DenXF.mono p g⟩
 |(.none,d)::r,_,h=>by simp only[DenXF]at h⊢;exact DenXF.mono p h
 |(.bool _,d)::r,_,h=>by simp only[DenXF]at h⊢;exact DenXF.mono p h
 |(.int _,d)::r,_,h=>by simp only[DenXF]at h⊢;exact DenXF.mono p h
 |(.list _,d)::r,_,h=>by simp only[DenXF]at h⊢;exact DenXF.mono p h
 |(.tuple _,d)::r,_,h=>by simp only[DenXF]at h⊢;exact DenXF.mono p h
 |(.dict _,d)::r,_,h=>by simp only[DenXF]at h⊢;exact DenXF.mono p h
end
theorem DenAll.nil:DenAll K H [] []:=by simp only[DenAll]
theorem DenAll.cons{d:PyData}(h:Den K H d v)(t:DenAll K H ds vs):DenAll K H (d::ds) (v::vs):=by
 simp only[DenAll];exact⟨v,vs,rfl,h,t⟩
theorem DenAll.paired:∀{ds:List PyData}{xs:List V},DenAll K H ds xs->Paired (Den K H) ds xs
 |[],_,h=>by simp only[DenAll]at h;subst h;exact .nil
 |d::ds,_,h=>by
  simp only[DenAll]at h;obtain⟨v,vs,e,f,g⟩:=h;subst e;exact .cons f g.paired
theorem fi:∀{ds:List PyData}{xs:List V},Paired (Den K H) ds xs->DenAll K H ds xs
 |_,_,.nil=>DenAll.nil
 |_,_,.cons f t=>DenAll.cons f (fi t)
theorem DenAll.length(h:DenAll K H ds xs):ds.length=xs.length:=h.paired.length
theorem Paired.get'{α β:Type}{F:α->β->Prop}:∀{l₁:List α}{l₂:List β}{i:Nat}{a:α},Paired F l₁ l₂->l₁[i]?=some a->∃b,l₂[i]?=some b/\F a b
 |_,_,_,_,.nil,e=>by simp at e
 |_,_,0,_,.cons f _,e=>by simp at e;subst e;exact⟨_,rfl,f⟩
 |_,_,i+1,a,.cons _ t,e=>by
  obtain⟨b,h1,h2⟩:=Paired.get' (i:=i) (a:=a) t (by simpa using e);exact⟨b,by simpa using h1,h2⟩
theorem DenAll.get{d:PyData}(h:DenAll K H ds xs)(e:ds[i]?=some d):∃v,xs[i]?=some v/\Den K H d v:=Paired.get' h.paired e
theorem Paired.get2{α β:Type}{F:α->β->Prop}:∀{l₁:List α}{l₂:List β}{i:Nat}{b:β},Paired F l₁ l₂->l₂[i]?=some b->∃a,l₁[i]?=some a/\F a b
 |_,_,_,_,.nil,e=>by simp at e
 |_,_,0,_,.cons f _,e=>by simp at e;subst e;exact⟨_,rfl,f⟩
 |_,_,i+1,b,.cons _ t,e=>by
  obtain⟨a,h1,h2⟩:=Paired.get2 (i:=i) (b:=b) t (by simpa using e);exact⟨a,by simpa using h1,h2⟩
theorem DenAll.get2(h:DenAll K H ds xs)(e:xs[i]?=some v):∃d,ds[i]?=some d/\Den K H d v:=Paired.get2 h.paired e
theorem Paired.append'{α β:Type}{F:α->β->Prop}:∀{a b:List α}{c d:List β},Paired F a c->Paired F b d->Paired F (a++b) (c++d)
 |_,_,_,_,.nil,s=>s
 |_,_,_,_,.cons r t,s=>.cons r (Paired.append' t s)
theorem DenAll.append{es:List PyData}{ys:List V}(h:DenAll K H ds xs)(g:DenAll K H es ys):DenAll K H (ds++es) (xs++ys):=fi (Paired.append' h.paired g.paired)
theorem Paired.set'{α β:Type}{F:α->β->Prop}{a:α}{b:β}(f:F a b):∀{l₁:List α}{l₂:List β} (i:Nat),Paired F l₁ l₂->Paired F (l₁.set i a) (l₂.set i b)
 |_,_,_,.nil=>.nil
 |_,_,0,.cons _ t=>.cons f t
 |_,_,i+1,.cons q t=>.cons q (Paired.set' f i t)
theorem DenAll.set{d:PyData}(h:DenAll K H ds xs)(f:Den K H d v)(i:Nat):DenAll K H (ds.set i d) (xs.set i v):=fi (Paired.set' f i h.paired)
theorem Paired.take'{α β:Type}{F:α->β->Prop}:∀{l₁:List α}{l₂:List β} (n:Nat),Paired F l₁ l₂->Paired F (l₁.take n) (l₂.take n)
 |_,_,0,_=>.nil
 |_,_,_+1,.nil=>.nil
 |_,_,n+1,.cons r t=>.cons r (Paired.take' n t)
theorem Paired.drop'{α β:Type}{F:α->β->Prop}:∀{l₁:List α}{l₂:List β} (n:Nat),Paired F l₁ l₂->Paired F (l₁.drop n) (l₂.drop n)
 |_,_,0,h=>h
 |_,_,_+1,.nil=>.nil
 |_,_,n+1,.cons _ t=>Paired.drop' n t
theorem DenAll.take(h:DenAll K H ds xs)(n:Nat):DenAll K H (ds.take n) (xs.take n):=fi (Paired.take' n h.paired)
theorem DenAll.drop(h:DenAll K H ds xs)(n:Nat):DenAll K H (ds.drop n) (xs.drop n):=fi (Paired.drop' n h.paired)
theorem DenAll.ints:∀ns:List Int,DenAll K H (ns.map .int) (ns.map V.int)
 |[]=>DenAll.nil
 |n::ns=>DenAll.cons (by simp only[Den]) (DenAll.ints ns)
end
def fzOf:List (PyData×PyData)->Option PyData
 |[(.none,.list ds)]=>some (.list ds)
 |[(.none,.dict es)]=>some (.dict es)
 |_=>none
mutual
def TAt(K:Kd)(H:Hp)(τ:List (List Nat×Addr))(p:List Nat):PyData->V->Prop
 | .list ts,v=>∃a xs,τ.lookup p=some a/\v = .ref a/\H a=some (.lst xs)/\TAtL K H τ p 0 ts xs
 | .dict kvs,v=>(∃d,fzOf kvs=some d/\Den K H d v) \/
   (fzOf kvs=none/\excC kvs=none/\∃a es,τ.lookup p=some a/\v = .ref a/\H a=some (dX a es)/\uF kvs/\TAtD K H τ p 0 kvs es) \/
   (fzOf kvs=none/\excC kvs=none/\∃a es,τ.lookup p=some a/\v = .ref a/\H a=some (.dK es)/\TAtK K H τ p 0 kvs es) \/
   ∃c a dx C xs,excC kvs=some c/\τ.lookup p=some a/\v = .ref a/\H a=some (.ins C dx xs)/\ClsN K c C/\TAtF K H τ p 0 kvs xs
 | .none,v=>Den K H .none v
 | .bool b,v=>Den K H (.bool b) v
 | .int i,v=>Den K H (.int i) v
 | .str x,v=>Den K H (.str x) v
 | .tuple ds,v=>Den K H (.tuple ds) v
def TAtL(K:Kd)(H:Hp)(τ:List (List Nat×Addr))(p:List Nat)(i:Nat):List PyData->List V->Prop
 |[],xs=>xs=[]
 |t::ts,xs=>∃v vs,xs=v::vs/\TAt K H τ (p++[i]) t v/\TAtL K H τ p (i+1) ts vs
def TAtD(K:Kd)(H:Hp)(τ:List (List Nat×Addr))(p:List Nat)(i:Nat):List (PyData×PyData)->List (Int×V×V)->Prop
 |[],es=>es=[]
 |(k,t)::r,es=>∃u v vs,es=(dH K.w k,u,v)::vs/\Den K H k u/\TAt K H τ (p++[i]) t v/\TAtD K H τ p (i+1) r vs
def TAtK(K:Kd)(H:Hp)(τ:List (List Nat×Addr))(p:List Nat)(i:Nat):List (PyData×PyData)->List (Key×V)->Prop
 |[],es=>es=[]
 |(k,t)::r,es=>∃kk v vs,es=(kk,v)::vs/\(k=keyD kk/\∀x∈vs,x.1≠kk)/\TAt K H τ (p++[i]) t v/\TAtK K H τ p (i+1) r vs
def TAtF(K:Kd)(H:Hp)(τ:List (List Nat×Addr))(p:List Nat)(i:Nat):List (PyData×PyData)->List (Str×V)->Prop
 |[],xs=>xs=[]
 |(k,t)::r,xs=>match k with
  | .str f=>∃v vs,xs=(f,v)::vs/\TAt K H τ (p++[i]) t v/\TAtF K H τ p (i+1) r vs
  | .none=>TAtF K H τ p (i+1) r xs
  |_=>False
end
theorem bj{β γ:Type}[BEq β][LawfulBEq β]{l:List (β×γ)}{p:β}{a:γ}(h:l.lookup p=some a):a∈l.map (·.2):=by
 induction l with
 |nil=>cases h
 |cons x l ih =>
  rw[List.lookup_cons]at h
  split at h
  .cases h;simp
  .exact List.mem_map.mpr (let ⟨y,h1,h2⟩:=List.mem_map.mp (ih h);⟨y,List.mem_cons_of_mem _ h1,h2⟩)
section
variable {K:Kd}{H H':Hp}{τ:List (List Nat×Addr)}
mutual
theorem TAt.mono(pe:Pers H H')(e:∀a∈τ.map (·.2),H' a=H a):∀{d:PyData}{p:List Nat}{v:V},TAt K H τ p d v->TAt K H' τ p d v
 | .none,_,_,h=>by simp only[TAt]at h⊢;exact h.mono pe
 | .bool _,_,_,h=>by simp only[TAt]at h⊢;exact h.mono pe
 | .int _,_,_,h=>by simp only[TAt]at h⊢;exact h.mono pe
 | .str _,_,_,h=>by simp only[TAt]at h⊢;exact h.mono pe
 | .tuple _,_,_,h=>by simp only[TAt]at h⊢;exact h.mono pe
 | .list ts,_,_,h=>by
  simp only[TAt]at h⊢;obtain⟨a,xs,e1,e2,e3,g⟩:=h;exact⟨a,xs,e1,e2,(e a (bj e1)).trans e3,TAtL.mono pe e g⟩
 | .dict kvs,_,_,h=>by
  simp only[TAt]at h⊢;rcases h with⟨d,e1,h⟩|⟨z1,z2,a,es,e1,e2,e3,k,g⟩|⟨z1,z2,a,es,e1,e2,e3,g⟩|⟨c,a,dx,C,xs,e0,e1,e2,e3,k,g⟩
  .exact .inl ⟨d,e1,h.mono pe⟩
  .exact .inr (.inl ⟨z1,z2,a,es,e1,e2,(e a (bj e1)).trans e3,k,TAtD.mono pe e g⟩)
  .exact .inr (.inr (.inl ⟨z1,z2,a,es,e1,e2,(e a (bj e1)).trans e3,TAtK.mono pe e g⟩))
  .exact .inr (.inr <| .inr ⟨c,a,dx,C,xs,e0,e1,e2,(e a (bj e1)).trans e3,k,TAtF.mono pe e g⟩)
theorem TAtL.mono(pe:Pers H H')(e:∀a∈τ.map (·.2),H' a=H a):∀{ds:List PyData}{p:List Nat}{i:Nat}{xs:List V},TAtL K H τ p i ds xs->TAtL K H' τ p i ds xs
 |[],_,_,_,h=>by simpa only[TAtL]using h
 |t::ts,_,_,_,h=>by
  simp only[TAtL]at h⊢;obtain⟨v,vs,e1,g1,g2⟩:=h;exact⟨v,vs,e1,TAt.mono pe e g1,TAtL.mono pe e g2⟩
theorem TAtD.mono(pe:Pers H H')(e:∀a∈τ.map (·.2),H' a=H a):∀{ds:List (PyData×PyData)}{p:List Nat}{i:Nat}{xs:List (Int×V×V)},TAtD K H τ p i ds xs->TAtD K H' τ p i ds xs
 |[],_,_,_,h=>by simpa only[TAtD]using h
 |(k,t)::r,_,_,_,h=>by
  simp only[TAtD]at h⊢;obtain⟨u,v,vs,e1,g0,g1,g2⟩:=h;exact⟨u,v,vs,e1,g0.mono pe,TAt.mono pe e g1,TAtD.mono pe e g2⟩
theorem TAtK.mono(pe:Pers H H')(e:∀a∈τ.map (·.2),H' a=H a):∀{ds:List (PyData×PyData)}{p:List Nat}{i:Nat}{xs:List (Key×V)},TAtK K H τ p i ds xs->TAtK K H' τ p i ds xs
 |[],_,_,_,h=>by simpa only[TAtK]using h
 |(k,t)::r,_,_,_,h=>by
  simp only[TAtK]at h⊢;obtain⟨u,v,vs,e1,g0,g1,g2⟩:=h;exact⟨u,v,vs,e1,g0,TAt.mono pe e g1,TAtK.mono pe e g2⟩
theorem TAtF.mono(pe:Pers H H')(e:∀a∈τ.map (·.2),H' a=H a):∀{ds:List (PyData×PyData)}{p:List Nat}{i:Nat}{xs:List (Str×V)},TAtF K H τ p i ds xs->TAtF K H' τ p i ds xs
 |[],_,_,_,h=>by simpa only[TAtF]using h
 |(.str f,t)::r,_,_,_,h=>by
  simp only[TAtF]at h⊢;obtain⟨v,vs,e1,g1,g2⟩:=h;exact⟨v,vs,e1,TAt.mono pe e g1,TAtF.mono pe e g2⟩
 |(.none,d)::r,_,_,_,h=>by simp only[TAtF]at h⊢;exact TAtF.mono pe e h
 |(.bool _,d)::r,_,_,_,h=>by simp only[TAtF]at h
 |(.int _,d)::r,_,_,_,h=>by simp only[TAtF]at h
 |(.list _,d)::r,_,_,_,h=>by simp only[TAtF]at h
 |(.tuple _,d)::r,_,_,_,h=>by simp only[TAtF]at h
 |(.dict _,d)::r,_,_,_,h=>by simp only[TAtF]at h
end
end
abbrev Cx.kd(X:Cx):Kd:=⟨X.K,X.w⟩
section
variable {X:Cx}{pins:List (Addr×Obj)}{σ:St}{H:Hp}{s:Shared}
mutual
theorem Den.reads(I:Inv X pins σ H s):∀{d:PyData}{v:V}{u:Value},d.hasDict=false->Den X.kd H d v->RelV v u->∃as,Reads s.heap u d as
 | .none,v,u,_,h,r=>by simp only[Den]at h;subst h;cases r;exact⟨_,.none⟩
 | .bool b,v,u,nd,h,r=>by simp only[Den]at h;subst h;cases r;exact⟨_,.bool b⟩
 | .int i,v,u,nd,h,r=>by simp only[Den]at h;subst h;obtain⟨t,rfl⟩:=r;exact⟨_,.int i t⟩
 | .str x,v,u,nd,h,r=>by simp only[Den]at h;subst h;obtain⟨t,rfl⟩:=r;exact⟨_,.str x t⟩
 | .list ds,v,u,nd,h,r=>by
  simp only[Den]at h;obtain⟨a,xs,rfl,f,g⟩:=h;cases r;obtain⟨its,rv,⟨o,n,e,c,_,dd⟩,_⟩:=I.list f.sq;obtain⟨as,h2⟩:=DenAll.reads I (by simpa only[PyData.hasDict]using nd) g rv;exact⟨_,.list e c dd (by simpa using h2)⟩
 | .tuple ds,v,u,nd,h,r=>by
  simp only[Den]at h;obtain⟨a,xs,rfl,f,g⟩:=h;cases r;obtain⟨its,rv,⟨o,e,c,n,dd⟩,_⟩:=I.tuple f;obtain⟨as,h2⟩:=DenAll.reads I (by simpa only[PyData.hasDict]using nd) g rv;exact⟨_,.tuple e c dd (by simpa using h2)⟩
 | .dict _,v,u,nd,h,r=>by simp[PyData.hasDict]at nd
theorem DenAll.reads(I:Inv X pins σ H s):∀{ds:List PyData}{xs:List V}{us:List Value},PyData.hasDictAll ds=false->DenAll X.kd H ds xs->Vals xs us->∃as,ReadsAll s.heap us ds as
 |[],xs,us,_,h,r=>by simp only[DenAll]at h;subst h;cases r;exact⟨_,.nil⟩
 | d::ds,xs,us,nd,h,r=>by
  simp only[PyData.hasDictAll,Bool.or_eq_false_iff]at nd;simp only[DenAll]at h;obtain⟨v,vs,rfl,f,g⟩:=h
  cases r with
  |cons r1 r2 =>
   obtain⟨a1,h1⟩:=Den.reads I nd.1 f r1;obtain⟨a2,h2⟩:=DenAll.reads I nd.2 g r2;exact⟨_,.cons h1 h2⟩
end
theorem Inv.freeze(I:Inv X pins σ H s)(h:H a=some (.lst xs)):∃o,Inv X pins σ (upd H a (.frz o (.lst xs))) s:=by
 obtain⟨hz,its,n,rv,e⟩:=I.hok a _ h;refine⟨{cls:=.type "list",data:=.seq its.toArray n},I.un (h':=s.heap) (t':=s.toks) ⟨fun b ob q _ _ _=>q,fun b ob q _ _ _=>⟨ob.slots,q⟩,fun b ob q z _=>?_,fun b ob q _=>⟨ob,q⟩,fun b ys q=>?_,fun b ob u q=>?_,fun b ps q=>⟨#[],?_⟩⟩ fun b ob q=>?_⟩
 .rw[aw (Ne.symm (aZ h z))];exact z
 .rw[aw (pH q h (by intro z;cases z))];exact q
 .rw[aw (pH q h (by intro z;cases z))];exact q
 .rw[aw (pH q h (by intro z;cases z)),q];simp
 .by_cases hb:b=a
  .subst hb;rw[aC]at q;cases q;exact⟨e,hz,its,n,rv,e⟩
  .rw[aw hb]at q;exact(I.hok b ob q).stay (fun _ _ _ z=>z) (fun c z=>by rw[aw (pH z h (by intro z;cases z))];exact z) fun c ys z=>by rw[aw (pH z h (by intro z;cases z))];exact z
end
def Ai:Expr->Bool
 | .Starred ..=>true
 |_=>false
theorem aV{es:List Expr}(h:Ai e=false):starEach (e::es) env=(false,eval e env)::starEach es env:=by
 cases e<;>first|rfl|cases h
theorem cv(h:Ai e=false):starEach [e] env=[(false,eval e env)]:=aV h
inductive R where
 |imm (d:PyData)|obj (k:Nat)|new (ds:List PyData)|at (k:Nat) (p:List Nat)|newT (t:PyData)
structure MSt where
 vs:List (Option R)
 os:List (List PyData)
 np:Nat
structure Kx extends Kd where
 eb:EB
instance:Coe Kx Kd:=⟨Kx.toKd⟩
abbrev Cx.kx(X:Cx):Kx:=⟨X.kd,X.eb⟩
abbrev Al:=List Ao
def Ao.ads:Ao->List Addr
 | .L a=>[a]
 | .T t=>t.map (·.2)
def ads(α:Al):List Addr:=α.flatMap Ao.ads
theorem ii(α β:Al):ads (α++β)=ads α++ads β:=by unfold ads;rw[List.flatMap_append]
def Mu:HO->Bool
 | .tup _=>false
 | .frz _ _=>false
 |_=>true
def OwnAt(K:Kd)(H:Hp):Ao->List PyData->Prop
 | .L a,ds=>∃xs,H a=some (.lst xs)/\DenAll K H ds xs
 | .T τ,ds=>(∃t v,ds=[t]/\TAt K H τ [] t v/\∃a,τ.lookup []=some a/\v = .ref a)/\∀a∈τ.map (·.2),∃o,H a=some o/\Mu o=true
theorem OwnAt.mem(h:OwnAt K H ao ds)(ha:a∈ao.ads):∃o,H a=some o/\Mu o=true:=by
 cases ao with
 |L b=>cases List.mem_singleton.mp ha;obtain⟨xs,e,_⟩:=h;exact⟨_,e,rfl⟩
 |T τ=>exact h.2 a ha
theorem OwnAt.mono(h:OwnAt K H ao ds)(pe:Pers H H')(e:∀a∈ao.ads,H' a=H a):OwnAt K H' ao ds:=by
 cases ao with
 |L b =>
  obtain⟨xs,q,g⟩:=h;exact⟨xs,(e b (List.mem_singleton.mpr rfl)).trans q,g.mono pe⟩
 |T τ =>
  obtain⟨⟨t,v,e1,g,r⟩,m⟩:=h;exact⟨⟨t,v,e1,g.mono pe e,r⟩,fun a ha=>by rw[e a ha];exact m a ha⟩
def RelS(K:Kd)(α:Al)(H:Hp):R->V->Prop
 | .imm d,v=>Den K H d v
 | .obj k,v=>∃a,α[k]?=some (.L a)/\v = .ref a
 | .at k p,v=>∃τ a,α[k]?=some (.T τ)/\τ.lookup p=some a/\v = .ref a
 | .new _,_=>False
 | .newT _,_=>False
def RelR(K:Kd)(α:Al)(Hb H:Hp):R->V->Prop
 | .imm d,v=>Den K H d v
 | .obj k,v=>∃a,α[k]?=some (.L a)/\v = .ref a
 | .at k p,v=>∃τ a,α[k]?=some (.T τ)/\τ.lookup p=some a/\v = .ref a
 | .new ds,v=>∃a xs,v = .ref a/\Hb a=none/\H a=some (.lst xs)/\DenAll K H ds xs
 | .newT t,v=>∃τ a,v = .ref a/\τ.lookup []=some a/\(τ.map (·.2)).Nodup/\(∀b∈τ.map (·.2),Hb b=none)/\OwnAt K H (.T τ) [t]
def Frm(α:Al)(H H':Hp):Prop:=∀b o,H b=some o->b∉ads α->H' b=some o
theorem Frm.refl(α:Al)(H:Hp):Frm α H H:=fun _ _ e _=>e
theorem Frm.trans(a:Frm α H H1)(b:Frm α H1 H2):Frm α H H2:=fun c o e n=>b c o (a c o e n) n
structure Ext(np:Nat)(α:Al)(H:Hp)(α':Al)(H':Hp):Prop where
 pre:α'.take np=α.take np
 frm:Frm α H H'
 new:∀a∈ads α',a∈ads α\/H a=none
 old:∀a∈ads α,∃o,H' a=some o
theorem Ext.trans{np:Nat}{α2:Al}(x:Ext np α H α1 H1)(y:Ext np α1 H1 α2 H2):Ext np α H α2 H2:=by
 have out:∀b o,H b=some o->b∉ads α->b∉ads α1:=fun b o e n hb=>by
  rcases x.new b hb with z|z
  .exact n z
  .rw[e]at z;cases z
 refine⟨y.pre.trans x.pre,fun b o e n=>y.frm b o (x.frm b o e n) (out b o e n),fun a ha=>?_,fun a ha=>?_⟩
 .rcases y.new a ha with z|z
  .exact x.new a z
  .cases q:H a with
   |none=>exact .inr rfl
   |some o =>
    by_cases hm:a∈ads α
    .exact .inl hm
    .have:=x.frm a o q hm;rw[z]at this;cases this
 .obtain⟨o,e⟩:=x.old a ha
  by_cases hm:a∈ads α1
  .exact y.old a hm
  .exact⟨o,y.frm a o e hm⟩
theorem Ext.nil{np:Nat}(x:Ext np α H α1 H1)(h:H1 a=none):H a=none:=by
 cases q:H a with
 |none=>rfl
 |some o =>
  by_cases hm:a∈ads α
  .obtain⟨o',e⟩:=x.old a hm;rw[h]at e;cases e
  .have:=x.frm a o q hm;rw[h]at this;cases this
theorem Ext.less{np n1:Nat}(x:Ext n1 α H α' H')(h:np≤n1):Ext np α H α' H':=by
 refine⟨?_,x.frm,x.new,x.old⟩;have:=congrArg (List.take np) x.pre;rw[List.take_take,List.take_take,Nat.min_eq_left h]at this;exact this
structure Rel(K:Kx)(α:Al)(m:MSt)(σ:St)(H:Hp):Prop where
 nd:(ads α).Nodup
 len:α.length=m.os.length
 own:∀(k:Nat) (ao:Ao) (ds:List PyData),α[k]?=some ao->m.os[k]?=some ds->OwnAt K H ao ds
 vlen:σ.length=m.vs.length
 var:∀(i:Nat) (r:R),m.vs[i]?=some (some r)->∃v,σ[i]?=some (some v)/\RelS K α H r v
 npl:m.np≤α.length
 ebl:K.eb.np≤m.np
 ebx:Ext K.eb.np K.eb.be K.eb.H α H
section
variable {K:Kx}{α:Al}{m m':MSt}{σ:St}{H H0 H1 H':Hp}{r:R}{v:V}
theorem RelS.rr{K:Kd}(h:RelS K α H r v):RelR K α Hb H r v:=by
 cases r with
 |imm d=>exact h
 |obj k=>exact h
 | «at» k p=>exact h
 |new ds=>exact h.elim
 |newT t=>exact h.elim
theorem Rel.mem(R:Rel K α m σ H)(ha:a∈ads α):∃o,H a=some o/\Mu o=true:=by
 obtain⟨ao,h1,h2⟩:=List.mem_flatMap.mp ha;obtain⟨k,hk,e⟩:=List.mem_iff_getElem.mp h1;have h1:α[k]?=some ao:=by rw[List.getElem?_eq_getElem hk,e]
 have h2':m.os[k]?=some (m.os[k]'(by rw[<-R.len];exact hk)):=List.getElem?_eq_getElem _;exact(R.own k ao _ h1 h2').mem h2
theorem Rel.out(R:Rel K α m σ H)(h:H a=none):a∉ads α:=fun ha=>by
 obtain⟨xs,q,_⟩:=R.mem ha;rw[h]at q;cases q
theorem Rel.pers(R:Rel K α m σ H)(F:Frm α H H'):Pers H H' where
 tups:=fun b xs e=>F b _ e fun ha=>by obtain⟨ys,q,z⟩:=R.mem ha;rw[e]at q;cases q;cases z
 frzs:=fun b o u e=>F b _ e fun ha=>by obtain⟨ys,q,z⟩:=R.mem ha;rw[e]at q;cases q;cases z
theorem Ext.of{np:Nat}(R:Rel K α m σ H')(F:Frm α H H'):Ext np α H α H' :=
 ⟨rfl,F,fun _ h=>.inl h,fun a ha=>let ⟨xs,q,_⟩:=R.mem ha;⟨_,q⟩⟩
theorem OwnAt.keep{K:Kd}(h:OwnAt K H1 ao ds)(pe:Pers H1 H)(F:Frm α H1 H)(n:∀b∈ao.ads,b∉ads α):OwnAt K H ao ds :=
 h.mono pe fun a ha=>by
  obtain⟨o,e,_⟩:=h.mem ha;rw[e];exact F a o e (n a ha)
theorem RelR.keep(R0:Rel K α m σ H0)(R1:Rel K α m' σ H1)(F:Frm α H1 H)(h:RelR K α H0 H1 r v):RelR K α H0 H r v:=by
 cases r with
 |imm d=>exact Den.mono (R1.pers F) h
 |obj k=>exact h
 | «at» k p=>exact h
 |new ds =>
  obtain⟨a,xs,e,n,q,g⟩:=h;exact⟨a,xs,e,n,F a _ q (R0.out n),g.mono (R1.pers F)⟩
 |newT t =>
  obtain⟨τ,a,e,e1,nd,n,g⟩:=h;exact⟨τ,a,e,e1,nd,n,g.keep (R1.pers F) F fun b hb=>R0.out (n b hb)⟩
theorem RelR.base(R:Rel K α m σ H)(F:Frm α H0 H)(h:RelR K α H H' r v):RelR K α H0 H' r v:=by
 have old:∀a,H a=none->H0 a=none:=fun a n=>by
  cases z:H0 a with
  |none=>rfl
  |some o =>
   have:=F a o z (R.out n);rw[n]at this;cases this
 cases r with
 |imm d=>exact h
 |obj k=>exact h
 | «at» k p=>exact h
 |new ds =>
  obtain⟨a,xs,e,n,q,g⟩:=h;exact⟨a,xs,e,old a n,q,g⟩
 |newT t =>
  obtain⟨τ,a,e,e1,nd,n,g⟩:=h;exact⟨τ,a,e,e1,nd,fun b hb=>old b (n b hb),g⟩
def chD:PyData->Nat->Option PyData
 | .list ts,i=>ts[i]?
 | .dict kvs,i=>match kvs[i]? with
  |some (.none,_)=>none
  |some (_,t)=>some t
  |none=>none
 |_,_=>none
def getT:PyData->List Nat->Option PyData
 |t,[]=>some t
 |t,i::p=>(chD t i).bind fun t'=>getT t' p
def u6:PyData->Option PyData
 | .list _=>none
 | .dict kvs=>fzOf kvs
 |d=>some d
def iG:List PyData->Option (List PyData)
 |[]=>some []
 |t::ts=>match u6 t,iG ts with|some d,some ds=>some (d::ds)|_,_=>none
def ndL(m:MSt)(k:Nat)(p:List Nat):Option (List PyData):=match m.os[k]? with
 |some [t]=>match getT t p with
  |some (.list ts)=>iG ts
  |_=>none
 |_=>none
theorem js{K:Kd}{p:List Nat}{t d:PyData}(h:TAt K H τ p t v)(e:u6 t=some d):Den K H d v:=by
 cases t with
 |list ts=>cases e
 | dict kvs =>
  have e':fzOf kvs=some d:=e;simp only[TAt]at h;rcases h with⟨d',e1,h⟩|⟨z,_⟩|⟨z,_⟩|⟨c,a,dx,C,xs,e0,_⟩
  .rw[e']at e1;cases e1;exact h
  .rw[e']at z;cases z
  .rw[e']at z;cases z
  .exfalso;unfold fzOf at e';unfold excC at e0
   split at e'<;>simp_all
 |none=>cases e;simpa only[TAt]using h
 |bool _=>cases e;simpa only[TAt]using h
 |int _=>cases e;simpa only[TAt]using h
 |str _=>cases e;simpa only[TAt]using h
 |tuple _=>cases e;simpa only[TAt]using h
theorem kQ{K:Kd}{τ:List (List Nat×Addr)}{p:List Nat}:∀{ts ds:List PyData}{i:Nat}{xs:List V},TAtL K H τ p i ts xs->iG ts=some ds->DenAll K H ds xs
 |[],ds,i,xs,h,e=>by
  cases e;simp only[TAtL]at h;subst h;exact DenAll.nil
 | t::ts,ds,i,xs,h,e=>by
  simp only[TAtL]at h;obtain⟨v,vs,rfl,g1,g2⟩:=h;simp only[iG]at e
  cases q1:u6 t with
  |none=>rw[q1]at e;cases e
  | some d =>
   cases q2:iG ts with
   |none=>rw[q1,q2]at e;cases e
   |some ds' =>
    rw[q1,q2]at e;cases e;exact DenAll.cons (js g1 q1) (kQ g2 q2)
theorem TAtL.get{K:Kd}{τ:List (List Nat×Addr)}{p:List Nat}:∀{ts:List PyData}{i j:Nat}{xs:List V}{t:PyData},TAtL K H τ p i ts xs->ts[j]?=some t->∃v,xs[j]?=some v/\TAt K H τ (p++[i+j]) t v
 |[],_,_,_,_,_,e=>by simp at e
 |t::ts,i,0,xs,t',h,e=>by
  simp only[TAtL]at h;obtain⟨v,vs,rfl,g1,_⟩:=h;simp at e;subst e;exact⟨v,rfl,g1⟩
 |t::ts,i,j+1,xs,t',h,e=>by
  simp only[TAtL]at h;obtain⟨v,vs,rfl,_,g2⟩:=h;obtain⟨v',e1,e2⟩:=TAtL.get (j:=j) g2 (by simpa using e);exact⟨v',by simpa using e1,by rw[show i+(j+1)=i+1+j by omega];exact e2⟩
theorem TAtD.get{K:Kd}{τ:List (List Nat×Addr)}{p:List Nat}:∀{ts:List (PyData×PyData)}{i j:Nat}{xs:List (Int×V×V)}{k t:PyData},TAtD K H τ p i ts xs->ts[j]?=some (k,t)->∃u v,xs[j]?=some (dH K.w k,u,v)/\Den K H k u/\TAt K H τ (p++[i+j]) t v
 |[],_,_,_,_,_,_,e=>by simp at e
 |(k,t)::ts,i,0,xs,k',t',h,e=>by
  simp only[TAtD]at h;obtain⟨u,v,vs,rfl,g0,g1,_⟩:=h;simp at e;obtain⟨rfl,rfl⟩:=e;exact⟨u,v,rfl,g0,g1⟩
 |(k,t)::ts,i,j+1,xs,k',t',h,e=>by
  simp only[TAtD]at h;obtain⟨u,v,vs,rfl,_,_,g2⟩:=h;obtain⟨u',v',e1,e0,e2⟩:=TAtD.get (j:=j) g2 (by simpa using e);exact⟨u',v',by simpa using e1,e0,by rw[show i+(j+1)=i+1+j by omega];exact e2⟩
theorem TAtK.get{K:Kd}{τ:List (List Nat×Addr)}{p:List Nat}:∀{ts:List (PyData×PyData)}{i j:Nat}{xs:List (Key×V)}{k t:PyData},TAtK K H τ p i ts xs->ts[j]?=some (k,t)->∃v,TAt K H τ (p++[i+j]) t v
 |[],_,_,_,_,_,_,e=>by simp at e
 |(k,t)::ts,i,0,xs,k',t',h,e=>by
  simp only[TAtK]at h;obtain⟨u,v,vs,rfl,g0,g1,_⟩:=h;simp at e;obtain⟨rfl,rfl⟩:=e;exact⟨v,g1⟩
 |(k,t)::ts,i,j+1,xs,k',t',h,e=>by
  simp only[TAtK]at h;obtain⟨u,v,vs,rfl,_,_,g2⟩:=h;obtain⟨v',e2⟩:=TAtK.get (j:=j) g2 (by simpa using e);exact⟨v',by rw[show i+(j+1)=i+1+j by omega];exact e2⟩
theorem TAtF.get{K:Kd}{τ:List (List Nat×Addr)}{p:List Nat}:∀{ts:List (PyData×PyData)}{i j:Nat}{xs:List (Str×V)}{f:Str}{t:PyData},TAtF K H τ p i ts xs->ts[j]?=some (.str f,t)->∃v,(f,v)∈xs/\TAt K H τ (p++[i+j]) t v
 |[],_,_,_,_,_,_,e=>by simp at e
 |(k,t)::ts,i,0,xs,f,t',h,e=>by
  simp at e;obtain⟨rfl,rfl⟩:=e;simp only[TAtF]at h;obtain⟨v,vs,rfl,g1,_⟩:=h;exact⟨v,List.mem_cons_self,g1⟩
 | (k,t)::ts,i,j+1,xs,f,t',h,e=>by
  have go:∀{ys:List (Str×V)},TAtF K H τ p (i+1) ts ys->∃v,(f,v)∈ys/\TAt K H τ (p++[i+(j+1)]) t' v:=fun {ys} g2=>by
   obtain⟨v',e1,e2⟩:=TAtF.get (j:=j) g2 (by simpa using e);exact⟨v',e1,by rw[show i+(j+1)=i+1+j by omega];exact e2⟩
  cases k with
  |str f' =>
   simp only[TAtF]at h;obtain⟨v,vs,rfl,_,g2⟩:=h;obtain⟨v',e1,e2⟩:=go g2;exact⟨v',List.mem_cons_of_mem _ e1,e2⟩
  |none=>simp only[TAtF]at h;exact go h
  |bool _=>simp only[TAtF]at h
  |int _=>simp only[TAtF]at h
  |list _=>simp only[TAtF]at h
  |tuple _=>simp only[TAtF]at h
  |dict _=>simp only[TAtF]at h
theorem TAtF.key{K:Kd}{p:List Nat}:∀{ts:List (PyData×PyData)}{i:Nat}{xs:List (Str×V)}{k t:PyData},TAtF K H τ p i ts xs->(k,t)∈ts->k≠.none->∃f,k = .str f
 |[],_,_,_,_,_,e,_=>by simp at e
 | (k,t)::ts,i,xs,k',t',h,e,kn=>by
  cases k with
  |str f' =>
   simp only[TAtF]at h;obtain⟨v,vs,rfl,_,g2⟩:=h;rcases List.mem_cons.mp e with e|e
   .cases e;exact⟨_,rfl⟩
   .exact g2.key e kn
  |none =>
   simp only[TAtF]at h;rcases List.mem_cons.mp e with e|e
   .cases e;exact(kn rfl).elim
   .exact h.key e kn
  |bool _=>simp only[TAtF]at h
  |int _=>simp only[TAtF]at h
  |list _=>simp only[TAtF]at h
  |tuple _=>simp only[TAtF]at h
  |dict _=>simp only[TAtF]at h
theorem TAt.get{K:Kd}{τ:List (List Nat×Addr)}:∀{q p:List Nat}{t t':PyData}{v:V},TAt K H τ p t v->getT t q=some t'->∃v',TAt K H τ (p++q) t' v'
 |[],p,t,t',v,h,e=>by cases e;exact⟨v,by rw[List.append_nil];exact h⟩
 | i::q,p,t,t',v,h,e=>by
  simp only[getT]at e
  cases z:chD t i with
  |none=>rw[z]at e;cases e
  | some t1 =>
   rw[z]at e;have e':getT t1 q=some t':=e;have step:∃v1,TAt K H τ (p++[i]) t1 v1:=by
    cases t with
    |list ts =>
     simp only[TAt]at h;obtain⟨a,xs,_,_,_,g⟩:=h;obtain⟨v1,_,g1⟩:=g.get (j:=i) z;exact⟨v1,by rw[Nat.zero_add]at g1;exact g1⟩
    | dict kvs =>
     simp only[chD]at z
     cases zi:kvs[i]? with
     |none=>rw[zi]at z;cases z
     | some kt =>
      obtain⟨k,t2⟩:=kt;rw[zi]at z;have kn:k≠.none:=fun q=>by subst q;cases z
      have e2:t2=t1:=by
       split at z<;>simp_all
      subst e2;simp only[TAt]at h;rcases h with⟨d,e1,_⟩|⟨_,_,a,es,_,_,_,_,g⟩|⟨_,_,a,es,_,_,_,g⟩|⟨c,a,dx,C,xs,e0,_,_,_,_,g⟩
      .exfalso;unfold fzOf at e1
       split at e1
       .cases i<;>simp at zi;exact kn zi.1.symm
       .cases i<;>simp at zi;exact kn zi.1.symm
       .cases e1
      .obtain⟨u,v1,_,_,g1⟩:=g.get (j:=i) zi;exact⟨v1,by rw[Nat.zero_add]at g1;exact g1⟩
      .obtain⟨v1,g1⟩:=g.get (j:=i) zi;exact⟨v1,by rw[Nat.zero_add]at g1;exact g1⟩
      .obtain⟨f,rfl⟩:=g.key (List.mem_of_getElem? zi) kn;obtain⟨v1,_,g1⟩:=g.get (j:=i) zi;exact⟨v1,by rw[Nat.zero_add]at g1;exact g1⟩
    |none=>cases z
    |bool _=>cases z
    |int _=>cases z
    |str _=>cases z
    |tuple _=>cases z
   obtain⟨v1,h1⟩:=step;obtain⟨v',h2⟩:=TAt.get h1 e';exact⟨v',by rw[List.append_assoc]at h2;exact h2⟩
def lsOf(m:MSt):R->Option (List PyData)
 | .imm (.list ds)=>some ds
 | .obj k=>m.os[k]?
 | .new ds=>some ds
 | .at k p=>ndL m k p
 |_=>none
mutual
def eraT:PyData->Option PyData
 | .list ts=>(eraL ts).map .list
 | .dict kvs=>fzOf kvs
 | .none=>some .none
 | .bool b=>some (.bool b)
 | .int i=>some (.int i)
 | .str x=>some (.str x)
 | .tuple ds=>some (.tuple ds)
def eraL:List PyData->Option (List PyData)
 |[]=>some []
 |t::ts=>match eraT t,eraL ts with|some d,some ds=>some (d::ds)|_,_=>none
end
def ndT(m:MSt)(k:Nat)(p:List Nat):Option PyData:=match m.os[k]? with
 |some [t]=>getT t p
 |_=>none
def asD(m:MSt):R->Option PyData
 | .imm d=>some d
 | .obj k=>(m.os[k]?).map .list
 | .new ds=>some (.list ds)
 | .at k p=>match ndT m k p with
  |some (.list ts)=>(eraL ts).map .list
  |_=>none
 | .newT _=>none
theorem RelR.node(R:Rel K α m σ H){k:Nat}{p:List Nat}(h:RelR K α H0 H (.at k p) v){t:PyData}(e:ndT m k p=some t):∃τ a v',α[k]?=some (.T τ)/\τ.lookup p=some a/\v = .ref a/\TAt K H τ p t v':=by
 obtain⟨τ,a,e1,e2,e3⟩:=h;unfold ndT at e
 split at e
 .rename_i t0 e0;obtain⟨⟨t1,v0,e4,g,_⟩,_⟩:=R.own k (.T τ) _ e1 e0;cases e4;obtain⟨v',g'⟩:=g.get e;exact⟨τ,a,v',e1,e2,e3,by simpa using g'⟩
 .cases e
theorem RelR.list(R:Rel K α m σ H)(h:RelR K α H0 H r v)(e:lsOf m r=some ds):∃a xs,v = .ref a/\SqL K H a xs/\DenAll K H ds xs:=by
 cases r with
 | imm d =>
  cases d with
  |list es =>
   cases e;have h':Den K H (.list ds) v:=h;simp only[Den]at h';obtain⟨a,xs,e1,f,g⟩:=h';exact⟨a,xs,e1,f.sq,g⟩
  |none=>cases e
  |bool _=>cases e
  |int _=>cases e
  |str _=>cases e
  |tuple _=>cases e
  |dict _=>cases e
 |obj k =>
  obtain⟨a,e1,rfl⟩:=h;obtain⟨xs,q,g⟩:=R.own k _ ds e1 e;exact⟨a,xs,rfl,SqL.of q,g⟩
 |new es =>
  cases e;obtain⟨a,xs,e1,n,q,g⟩:=h;exact⟨a,xs,e1,SqL.of q,g⟩
 | «at» k p =>
  have e':ndL m k p=some ds:=e;obtain⟨ts,e1,e2⟩:∃ts,ndT m k p=some (.list ts)/\iG ts=some ds:=by
   unfold ndL at e';unfold ndT
   split at e'
   .split at e'
    .rename_i h0 _ ts h1;exact⟨ts,h1,e'⟩
    .cases e'
   .cases e'
  obtain⟨τ,a,v',_,ea,rfl,g⟩:=RelR.node R h e1;simp only[TAt]at g;obtain⟨a',xs,ea',_,q,g⟩:=g;rw[ea]at ea';cases ea';exact⟨a,xs,rfl,SqL.of q,kQ g e2⟩
 |newT _=>cases e
end
section
variable {X:Cx}{pins:List (Addr×Obj)}{σ:St}{H:Hp}{s:Shared}{τ:List (List Nat×Addr)}
mutual
theorem TAt.reads(I:Inv X pins σ H s):∀{t d:PyData}{p:List Nat}{v:V}{u:Value},eraT t=some d->d.hasDict=false->TAt X.kd H τ p t v->RelV v u->∃as,Reads s.heap u d as
 | .none,d,p,v,u,e,nd,h,r=>by simp only[eraT]at e;cases e;simp only[TAt]at h;exact h.reads I nd r
 | .bool b,d,p,v,u,e,nd,h,r=>by simp only[eraT]at e;cases e;simp only[TAt]at h;exact h.reads I nd r
 | .int i,d,p,v,u,e,nd,h,r=>by simp only[eraT]at e;cases e;simp only[TAt]at h;exact h.reads I nd r
 | .str x,d,p,v,u,e,nd,h,r=>by simp only[eraT]at e;cases e;simp only[TAt]at h;exact h.reads I nd r
 | .tuple ds,d,p,v,u,e,nd,h,r=>by simp only[eraT]at e;cases e;simp only[TAt]at h;exact h.reads I nd r
 | .dict kvs,d,p,v,u,e,nd,h,r=>by
  simp only[eraT]at e;exact(js h (show u6 (.dict kvs)=some d from e)).reads I nd r
 | .list ts,d,p,v,u,e,nd,h,r=>by
  simp only[eraT]at e
  cases q:eraL ts with
  |none=>rw[q]at e;cases e
  |some ds =>
   rw[q]at e;cases e;simp only[TAt]at h;obtain⟨a,xs,_,rfl,f,g⟩:=h;cases r;obtain⟨its,rv,⟨o,n,e,c,_,dd⟩,_⟩:=I.list (SqL.of f);obtain⟨as,h2⟩:=TAtL.reads I q (by simpa only[PyData.hasDict]using nd) g rv;exact⟨_,.list e c dd (by simpa using h2)⟩
theorem TAtL.reads(I:Inv X pins σ H s):∀{ts ds:List PyData}{p:List Nat}{i:Nat}{xs:List V}{us:List Value},eraL ts=some ds->PyData.hasDictAll ds=false->TAtL X.kd H τ p i ts xs->Vals xs us->∃as,ReadsAll s.heap us ds as
 |[],ds,p,i,xs,us,e,nd,h,r=>by
  simp only[eraL]at e;cases e;simp only[TAtL]at h;subst h
  cases r;exact⟨_,.nil⟩
 | t::ts,ds,p,i,xs,us,e,nd,h,r=>by
  simp only[eraL]at e
  cases q1:eraT t with
  |none=>rw[q1]at e;cases e
  | some d =>
   cases q2:eraL ts with
   |none=>rw[q1,q2]at e;cases e
   | some ds' =>
    rw[q1,q2]at e;cases e;simp only[PyData.hasDictAll,Bool.or_eq_false_iff]at nd;simp only[TAtL]at h;obtain⟨v,vs,rfl,g1,g2⟩:=h
    cases r with
    |cons r1 r2 =>
     obtain⟨a1,h1⟩:=TAt.reads I q1 nd.1 g1 r1;obtain⟨a2,h2⟩:=TAtL.reads I q2 nd.2 g2 r2;exact⟨_,.cons h1 h2⟩
end
end
theorem RelR.reads{s:Shared}{m:MSt}{u:Value}{d:PyData}(I:Inv X pins σ H s)(R:Rel X.kx α m σ' H)(h:RelR X.kd α H0 H r v)(rv:RelV v u)(e:asD m r=some d)(nd:d.hasDict=false):∃as,Reads s.heap u d as:=by
 have li:∀{ds:List PyData},lsOf m r=some ds->PyData.hasDictAll ds=false->∃as,Reads s.heap u (.list ds) as:=fun {ds} e nd=>by
  obtain⟨a,xs,rfl,f,g⟩:=RelR.list R h e;cases rv;obtain⟨its,rv,⟨o,n,e,c,_,dd⟩,_⟩:=I.list f;obtain⟨as,h2⟩:=DenAll.reads I nd g rv;exact⟨_,.list e c dd (by simpa using h2)⟩
 cases r with
 |imm d'=>cases e;exact Den.reads I nd h rv
 | obj k =>
  cases q:m.os[k]? with
  |none=>simp[asD,q]at e
  |some ds =>
   simp[asD,q]at e;subst e;exact li q (by simpa only[PyData.hasDict]using nd)
 |new ds=>cases e;exact li rfl (by simpa only[PyData.hasDict]using nd)
 | «at» k p =>
  obtain⟨ts,ds,q,q2,rfl⟩:∃ts ds,ndT m k p=some (.list ts)/\eraL ts=some ds/\d = .list ds:=by
   unfold asD at e;simp only at e
   split at e
   .rename_i ts q
    cases q2:eraL ts with
    |none=>rw[q2]at e;cases e
    |some ds=>rw[q2]at e;cases e;exact⟨ts,ds,q,q2,rfl⟩
   .cases e
  obtain⟨τ,a,v',_,ea,rfl,g⟩:=RelR.node R h q;have g':=g;simp only[TAt]at g';obtain⟨a',xs,ea',e3,_⟩:=g';rw[ea]at ea';cases ea';subst e3;exact TAt.reads I (by simp only[eraT,q2,Option.map]) nd g rv
 |newT _=>cases e
abbrev WE:=MSt->(R->MSt->Prop)->Prop
abbrev WT:=MSt->(Bool->MSt->Prop)->Prop
abbrev WA:=MSt->(List R->MSt->Prop)->Prop
def tM(K:Kx)(w:WE):TE:=fun σ H Q=>∃α m Kc,Rel K α m σ H/\w m Kc/\∀r m' v H',Kc r m'->m'.np=m.np->Rel K α m' σ H'->RelR K α H H' r v->Frm α H H'->Q v H'
def tMT(K:Kx)(w:WT):TT:=fun σ H Q=>∃α m Kc,Rel K α m σ H/\w m Kc/\∀b m' H',Kc b m'->m'.np=m.np->Rel K α m' σ H'->Frm α H H'->Q b H'
inductive RelRs(K:Kd)(α:Al)(Hb H:Hp):List R->List V->Prop where
 |nil:RelRs K α Hb H [] []
 |cons {r:R}{rs:List R}{v:V}{vs:List V}:RelR K α Hb H r v->RelRs K α Hb H rs vs->RelRs K α Hb H (r::rs) (v::vs)
def tMA(K:Kx)(w:WA):TA:=fun σ H Q=>∃α m Kc,Rel K α m σ H/\w m Kc/\∀rs m' vs H',Kc rs m'->m'.np=m.np->Rel K α m' σ H'->RelRs K α H H' rs vs->Frm α H H'->Q vs H'
theorem PE.wk{t t':TE}(h:PE X e t)(k:∀σ H Q,t' σ H Q->t σ H Q):PE X e t':=fun pins s σ H Q I q=>h pins s σ H Q I (k _ _ _ q)
theorem PT.wk{t t':TT}(h:PT X e t)(k:∀σ H Q,t' σ H Q->t σ H Q):PT X e t':=fun pins s σ H Q I q=>h pins s σ H Q I (k _ _ _ q)
theorem PW.wk{t t':TT}(h:PW X e t)(k:∀σ H Q,t' σ H Q->t σ H Q):PW X e t':=fun wh pins s σ H Q I q=>h wh pins s σ H Q I (k _ _ _ q)
theorem PA.wk{e:List Expr}{t t':TA}(h:PA X e t)(k:∀σ H Q,t' σ H Q->t σ H Q):PA X e t':=fun pos pins s σ H Q I q=>h pos pins s σ H Q I (k _ _ _ q)
theorem PS.wk{e:Stmt}{t t':TS}(h:PS X e t)(k:∀D σ H,t' D σ H->t D σ H):PS X e t':=fun pins s σ H D I q=>h pins s σ H D I (k _ _ _ q)
theorem PSs.wk{e:List Stmt}{t t':TS}(h:PSs X e t)(k:∀D σ H,t' D σ H->t D σ H):PSs X e t':=fun pins s σ H D I q=>h pins s σ H D I (k _ _ _ q)
abbrev ME(X:Cx)(e:Expr)(w:WE):Prop:=PE X e (tM X.kx w)
abbrev MT(X:Cx)(e:Expr)(w:WT):Prop:=PT X e (tMT X.kx w)
abbrev MW(X:Cx)(e:Expr)(w:WT):Prop:=PW X e (tMT X.kx w)
abbrev MA(X:Cx)(es:List Expr)(w:WA):Prop:=PA X es (tMA X.kx w)
section
variable {X:Cx}{a b c:Expr}{es:List Expr}{wa wb wc:WE}{pos:Pos}
def wVar(i:Nat):WE:=fun m K=>∃r,m.vs[i]?=some (some r)/\K r m
def wC(d:PyData):WE:=fun m K=>K (.imm d) m
theorem Bc{t:TE}{w:WE}(h:PE X a t)(k:∀α m σ H Kc Q,Rel X.kx α m σ H->w m Kc->(∀r m' v H',Kc r m'->m'.np=m.np->Rel X.kx α m' σ H'->RelR X.kx α H H' r v->Frm α H H'->Q v H')->t σ H Q):ME X a w :=
 h.wk fun σ H Q ⟨α,m,Kc,Rl,hw,fin⟩=>k α m σ H Kc Q Rl hw fin
theorem me_c{d:PyData}(h:PE X a (tC v))(hd:∀(K:Kd) H,Den K H d v):ME X a (wC d) :=
 Bc h fun α m σ H Kc Q Rl hw fin=>fin _ m v H hw rfl Rl (hd _ _) (Frm.refl _ _)
theorem Jn{i j pos}:ME X (.Constant (.int i) j pos) (wC (.int i)):=me_c D6 fun _ _=>by simp only[Den]
theorem Ld{i j pos}:ME X (.Constant (.bool i) j pos) (wC (.bool i)):=me_c JB fun _ _=>by simp only[Den]
theorem Fj{i j pos}:ME X (.Constant (.str i) j pos) (wC (.str i)):=me_c Ia fun _ _=>by simp only[Den]
theorem Ie{j pos}:ME X (.Constant .none j pos) (wC .none):=me_c Fy fun _ _=>by simp only[Den]
theorem Jp(h:PE X a (tVar i)):ME X a (wVar i) :=
 Bc h fun α m σ H Kc Q Rl hw fin=>by
  obtain⟨r,e,k⟩:=hw;obtain⟨v,ev,rv⟩:=Rl.var i r e;exact⟨v,ev,fin r m v H k rfl Rl rv.rr (Frm.refl _ _)⟩
theorem mv(i:Nat){pos:Pos}(hN:X.N[i]?=some x:=by rfl)(hv:Vis X.env.scope x:=by first|exact Or.inl rfl|exact Or.inr (Or.inl rfl)|exact Or.inr (Or.inr rfl))(hd:(x==("__debug__" : Str))=false:=by decide)(hcd:(x==("__classdict__" : Str))=false:=by decide):ME X (.Name x pos) (wVar i):=Jp (FO hN hv hd hcd)
abbrev WO:=R->R->MSt->(R->Prop)->Prop
def rM(K:Kx)(o:WO):R2:=fun x y H Q=>∃α m σ H0 H1 r1 r2 Kc,Rel K α m σ H/\RelR K α H0 H r1 x/\RelR K α H1 H r2 y/\o r1 r2 m Kc/\∀r v H',Kc r->Rel K α m σ H'->RelR K α H H' r v->Frm α H H'->Q v H'
def wBin(o:WO)(wa wb:WE):WE:=fun m K=>wa m fun r1 m1=>wb m1 fun r2 m2=>o r1 r2 m2 fun r=>K r m2
theorem rL(h:tM X.kx (wBin o wa wb) σ H Q):tOp (rM X.kx o) (tM X.kx wa) (tM X.kx wb) σ H Q:=by
 obtain⟨α,m,Kc,Rl,hw,fin⟩:=h;refine⟨α,m,_,Rl,hw,fun r1 m1 x H1 k1 n1 Rl1 rr1 F1=>⟨α,m1,_,Rl1,k1,fun r2 m2 y H2 k2 n2 Rl2 rr2 F2=>?_⟩⟩;refine⟨α,m2,σ,H,H1,r1,r2,_,Rl2,rr1.keep Rl Rl1 F2,rr2,k2,fun r v H' k Rl' rr F=>?_⟩;exact fin r m2 v H' k (n2.trans n1) Rl' (rr.base Rl2 (F1.trans F2)) ((F1.trans F2).trans F)
theorem IL{op:Operator}(ho:OpR X (binaryOp op) (rM X.kx o))(ha:ME X a wa)(hb:ME X b wb):ME X (.BinOp a op b pos) (wBin o wa wb):=(Jz ho ha hb).wk fun _ _ _ h=>rL h
theorem Jo(ho:OpR X (compareOp op) (rM X.kx o))(ha:ME X a wa)(hb:ME X b wb)(hm:behindInMarks op b=false):ME X (.Compare a [op] [b] pos) (wBin o wa wb):=(Ci ho ha hb hm).wk fun _ _ _ h=>rL h
def onBl(P:Bool->Prop):R->Prop
 | .imm (.bool k)=>P k
 |_=>False
theorem DH{K:Kx}{P:Bool->Prop}(rr:RelR K α Hb H r v)(h:onBl P r):∃b,r = .imm (.bool b)/\v = .bl b/\P b:=by
 cases r with
 |obj _=>exact h.elim
 |new _=>exact h.elim
 | «at» _ _=>exact h.elim
 |newT _=>exact h.elim
 | imm d =>
  cases d with
  |bool b =>
   have e:Den K H (.bool b) v:=rr;simp only[Den]at e;exact⟨b,rfl,e,h⟩
  |none=>exact h.elim
  |int _=>exact h.elim
  |str _=>exact h.elim
  |list _=>exact h.elim
  |tuple _=>exact h.elim
  |dict _=>exact h.elim
def sn(w:WE):WT:=fun m K=>w m fun r m'=>onBl (fun k=>K k m') r
theorem vn{t:TE}{Q:Bool->Hp->Prop}{w:WE}(k:∀Q',tM X.kx w σ H Q'->t σ H Q')(h:tMT X.kx (sn w) σ H Q):D9 t σ H Q:=by
 obtain⟨α,m,Kc,Rl,hw,fin⟩:=h;refine k _ ⟨α,m,_,Rl,hw,fun r m' v H' kk n1 Rl' rr F=>?_⟩;obtain⟨b,er,ev,kk⟩:=DH rr kk;exact⟨b,ev,fin b m' H' kk n1 Rl' F⟩
theorem DL(ho:OpR X (compareOp op) (rM X.kx o))(ha:ME X a wa)(hb:ME X b wb)(hm:behindInMarks op b=false):MT X (.Compare a [op] [b] pos) (sn (wBin o wa wb)):=(Da ho ha hb hm).wk fun _ _ _ h=>vn (fun _=>rL) h
theorem Gh(ha:ME X a wa)(he:∀whole,isTrue a X.env whole=(do let v <- whole;standAt a.pos;holding [v] (truthy v)):=by intro _;rfl):MT X a (sn wa):=(FG ha he).wk fun _ _ _ h=>vn (t:=tM X.kx wa) (fun _ h=>h) h
end
section
variable {X:Cx}{a b c:Expr}{es:List Expr}{wa wb wc:WE}{pos:Pos}
variable {wt wu:WT}{rest:List Expr}
def wAnd(t u:WT):WT:=fun m K=>t m fun c m1=>if c=true then u m1 K else K false m1
def wOr(t u:WT):WT:=fun m K=>t m fun c m1=>if c=true then K true m1 else u m1 K
def wNot(t:WT):WT:=fun m K=>t m fun c m1=>K (!c) m1
theorem Bz(ha:MT X a wt):MW X (.BoolOp .And [a] pos) wt:=Dw ha
theorem GC(ha:MT X a wt):MW X (.BoolOp .Or [a] pos) wt:=IE ha
theorem Ir(ha:MT X a wt)(hb:MW X (.BoolOp .And (b::rest) pos) wu):MW X (.BoolOp .And (a::b::rest) pos) (wAnd wt wu):=(Ft ha hb).wk fun σ H Q ⟨α,m,Kc,Rl,hw,fin⟩=>by
 refine⟨α,m,_,Rl,hw,fun bb m1 H1 k n1 Rl1 F1=>?_⟩
 cases bb with
 |true=>rw[if_pos rfl]at k⊢;exact⟨α,m1,Kc,Rl1,k,fun b2 m2 H2 k2 n2 Rl2 F2=>fin b2 m2 H2 k2 (n2.trans n1) Rl2 (F1.trans F2)⟩
 |false=>rw[if_neg Bool.false_ne_true]at k⊢;exact fin _ m1 H1 k n1 Rl1 F1
theorem JA(ha:MT X a wt)(hb:MW X (.BoolOp .Or (b::rest) pos) wu):MW X (.BoolOp .Or (a::b::rest) pos) (wOr wt wu):=(KL ha hb).wk fun σ H Q ⟨α,m,Kc,Rl,hw,fin⟩=>by
 refine⟨α,m,_,Rl,hw,fun bb m1 H1 k n1 Rl1 F1=>?_⟩
 cases bb with
 |true=>rw[if_pos rfl]at k⊢;exact fin _ m1 H1 k n1 Rl1 F1
 |false=>rw[if_neg Bool.false_ne_true]at k⊢;exact⟨α,m1,Kc,Rl1,k,fun b2 m2 H2 k2 n2 Rl2 F2=>fin b2 m2 H2 k2 (n2.trans n1) Rl2 (F1.trans F2)⟩
theorem Jr(ha:MT X a wt):MT X (.UnaryOp .Not a pos) (wNot wt):=(GU ha).wk fun σ H Q ⟨α,m,Kc,Rl,hw,fin⟩ =>
 ⟨α,m,_,Rl,hw,fun bb m1 H1 k n1 Rl1 F1=>fin _ m1 H1 k n1 Rl1 F1⟩
theorem Gz(b:Bool):Den K H (.bool b) (.bl b):=by simp only[Den]
theorem lH(b:Int):Den K H (.int b) (.int b):=by simp only[Den]
theorem u8(b:Str):Den K H (.str b) (.str b):=by simp only[Den]
theorem CY:Den K H .none .non:=by simp only[Den]
abbrev WU:=R->MSt->(R->Prop)->Prop
def uM(K:Kx)(o:WU):V->Hp->VK->Prop:=fun x H Q=>∃α m σ H0 r1 Kc,Rel K α m σ H/\RelR K α H0 H r1 x/\o r1 m Kc/\∀r v H',Kc r->Rel K α m σ H'->RelR K α H H' r v->Frm α H H'->Q v H'
def wUn(o:WU)(wa:WE):WE:=fun m K=>wa m fun r1 m1=>o r1 m1 fun r=>K r m1
theorem J9{op:UnaryOp}{o:WU}(ho:UnR X (unaryOp op) (uM X.kx o))(ha:ME X a wa):ME X (.UnaryOp op a pos) (wUn o wa):=(JV ho ha).wk fun σ H Q ⟨α,m,Kc,Rl,hw,fin⟩ =>
 ⟨α,m,_,Rl,hw,fun r1 m1 x H1 k1 n1 Rl1 rr1 F1=>⟨α,m1,σ,H,r1,_,Rl1,rr1,k1,fun r v H' k Rl' rr F=>fin r m1 v H' k n1 Rl' (rr.base Rl1 F1) (F1.trans F)⟩⟩
def tFz(t:TE):TE:=fun σ H Q=>t σ H fun v H1=>Q v H1\/∃a xs,H1 a=some (.lst xs)/\∀o,Q v (upd H1 a (.frz o (.lst xs)))
theorem JF{t:TE}(h:PE X a t):PE X a (tFz t):=by
 intro pins s σ H Q I q;refine thn (h pins s σ H _ I q) fun u s1 ⟨v,H1,I1,r1,q1⟩=>?_;rcases q1 with q1|⟨p,xs,e,q1⟩
 .exact⟨v,H1,I1,r1,q1⟩
 .obtain⟨o,I2⟩:=I1.freeze e;exact⟨v,_,I2,r1,q1 o⟩
theorem Rel.at{K:Kx}{m:MSt}(R:Rel K α m σ H)(p:Pers H H')(e:∀a∈ads α,H' a=H a)(x:Frm α H H'):Rel K α m σ H':=by
 refine⟨R.nd,R.len,fun k ao ds h1 h2=>?_,R.vlen,fun i r h=>?_,R.npl,R.ebl,R.ebx.trans ⟨rfl,x,fun _ h=>.inl h,fun a ha=>?_⟩⟩
 .exact(R.own k ao ds h1 h2).mono p fun a ha=>e a (List.mem_flatMap.mpr ⟨ao,List.mem_of_getElem? h1,ha⟩)
 .obtain⟨v,ev,rv⟩:=R.var i r h;refine⟨v,ev,?_⟩
  cases r with
  |imm d=>exact Den.mono p rv
  |obj k=>exact rv
  | «at» k p=>exact rv
  |new ds=>exact rv
  |newT t=>exact rv
 .obtain⟨o,q,_⟩:=R.mem ha;exact⟨o,(e a ha).trans q⟩
theorem Rel.at'{K:Kx}{m:MSt}(R:Rel K α m σ H)(p:Pers H H')(e:∀a∈ads α,H' a=H a)(x:Ext K.eb.np K.eb.be K.eb.H α H'):Rel K α m σ H':=by
 refine⟨R.nd,R.len,fun k ao ds h1 h2=>?_,R.vlen,fun i r h=>?_,R.npl,R.ebl,x⟩
 .exact(R.own k ao ds h1 h2).mono p fun a ha=>e a (List.mem_flatMap.mpr ⟨ao,List.mem_of_getElem? h1,ha⟩)
 .obtain⟨v,ev,rv⟩:=R.var i r h;refine⟨v,ev,?_⟩
  cases r with
  |imm d=>exact Den.mono p rv
  |obj k=>exact rv
  | «at» k p=>exact rv
  |new ds=>exact rv
  |newT t=>exact rv
theorem bx{a:Addr}{o:HO}(h:H a=none\/∃u,H a=some u/\Mu u=true):Pers H (upd H a o) where
 tups:=fun b xs e=>by
  rw[aw];exact e;rintro rfl;rcases h with h|⟨ys,h,z⟩<;>(rw[e]at h;cases h)
  cases z
 frzs:=fun b o u e=>by
  rw[aw];exact e;rintro rfl;rcases h with h|⟨ys,h,z⟩<;>(rw[e]at h;cases h)
  cases z
theorem qW{a:Addr}{o:HO}(h:H a=some (.lst xs)):Pers H (upd H a o):=bx (.inr ⟨_,h,rfl⟩)
theorem cW{a:Addr}{o:HO}(h:H a=none):Frm α H (upd H a o):=fun b ob e _=>by
 rw[aw (aZ e h)];exact e
theorem Rel.lay{K:Kx}{m:MSt}{a:Addr}{o:HO}(R:Rel K α m σ H)(h:H a=none):Rel K α m σ (upd H a o) :=
 R.at (bx (.inl h)) (fun b hb=>aw fun e=>R.out h (e▸hb)) (cW h)
def wImm(w:WE):WE:=fun m K=>w m fun r m'=>match r with| .imm d=>K (.imm d) m' | .new ds=>K (.imm (.list ds)) m'|_=>False
theorem F7(ha:ME X a wa):ME X a (wImm wa):=(JF ha).wk fun σ H Q ⟨α,m,Kc,Rl,hw,fin⟩=>by
 refine⟨α,m,_,Rl,hw,fun r m1 v H1 k n1 Rl1 rr F1=>?_⟩
 cases r with
 |imm d=>exact .inl (fin _ m1 v H1 k n1 Rl1 rr F1)
 |obj _=>exact k.elim
 | «at» _ _=>exact k.elim
 |newT _=>exact k.elim
 | new ds =>
  obtain⟨p,xs,ev,n,q,g⟩:=rr;refine .inr ⟨p,xs,q,fun o=>?_⟩;have pe:Pers H1 (upd H1 p (.frz o (.lst xs))):=qW q;have fr:Frm α H (upd H1 p (.frz o (.lst xs))):=fun b ob e nb=>by
   rw[aw (aZ e n)];exact F1 b ob e nb
  have old:Ext X.kx.eb.np α H α (upd H1 p (.frz o (.lst xs))):=⟨rfl,fr,fun _ h=>.inl h,fun b hb=>by
   have hbp:b≠p:=fun e=>Rl.out n (e▸hb);rw[aw hbp];obtain⟨o',e',_⟩:=Rl1.mem hb;exact⟨o',e'⟩⟩
  refine fin _ m1 v _ k n1 (Rl1.at' pe (fun b hb=>aw fun e=>Rl.out n (e▸hb)) (Rl.ebx.trans old)) (show Den X.kx _ (.list ds) v from ?_) fun b ob e nb=>?_
  .simp only[Den];exact⟨p,xs,ev,.inl ⟨o,aC⟩,g.mono pe⟩
  .rw[aw (aZ e n)];exact F1 b ob e nb
def wNil:WA:=fun m K=>K [] m
def ij(w:WE)(ws:WA):WA:=fun m K=>w m fun r m1=>ws m1 fun rs m2=>K (r::rs) m2
theorem RelRs.base{K:Kx}{m:MSt}(Rl:Rel K α m σ H)(F:Frm α H0 H):∀{rs:List R}{vs:List V},RelRs K α H H' rs vs->RelRs K α H0 H' rs vs
 |_,_,.nil=>.nil
 |_,_,.cons h t=>.cons (h.base Rl F) (t.base Rl F)
variable {ws:WA}
theorem FC:MA X [] wNil:=(D7 (X:=X)).wk fun σ H Q ⟨α,m,Kc,Rl,hw,fin⟩=>fin _ m _ H hw rfl Rl .nil (Frm.refl _ _)
theorem Br(ha:ME X a wa)(hr:MA X es ws)(hs:starEach (a::es) X.env=(false,eval a X.env)::starEach es X.env:=by first|exact aV rfl|rfl):MA X (a::es) (ij wa ws):=(BJ ha hr hs).wk fun σ H Q ⟨α,m,Kc,Rl,hw,fin⟩ =>
 ⟨α,m,_,Rl,hw,fun r m1 v H1 k n1 Rl1 rr F1=>⟨α,m1,_,Rl1,k,fun rs m2 vs H2 k2 n2 Rl2 rr2 F2=>fin _ m2 _ H2 k2 (n2.trans n1) Rl2 (.cons (rr.keep Rl Rl1 F2) (rr2.base Rl1 F1)) (F1.trans F2)⟩⟩
def fg:List R->Option (List PyData)
 |[]=>some []
 | .imm d::rs=>(fg rs).map (d :: ·)
 |_::_=>none
theorem RelRs.imm{K:Kx}:∀{rs:List R}{vs:List V}{ds:List PyData},RelRs K α H0 H rs vs->fg rs=some ds->DenAll K H ds vs
 |_,_,_,.nil,e=>by cases e;exact DenAll.nil
 |_,_,ds,.cons (r:=.imm d) (rs:=rs) h t,e=>by
  simp only[fg]at e
  cases q:fg rs with
  |none=>rw[q]at e;cases e
  |some ds'=>rw[q]at e;cases e;exact DenAll.cons h (t.imm q)
 |_,_,_,.cons (r:=.obj _) h t,e=>by cases e
 |_,_,_,.cons (r:=.new _) h t,e=>by cases e
 |_,_,_,.cons (r:=.at _ _) h t,e=>by cases e
 |_,_,_,.cons (r:=.newT _) h t,e=>by cases e
def uw(P:List PyData->Prop):Option (List PyData)->Prop
 |some ds=>ds.length≤sizeLine/\P ds
 |none=>False
def wTup(ws:WA):WE:=fun m K=>ws m fun rs m'=>uw (fun ds=>K (.imm (.tuple ds)) m') (fg rs)
def wLst(ws:WA):WE:=fun m K=>ws m fun rs m'=>uw (fun ds=>K (.new ds) m') (fg rs)
theorem G9{x1}(h:MA X es ws):ME X (.Tuple es x1 pos) (wTup ws):=(IX h).wk fun σ H Q ⟨α,m,Kc,Rl,hw,fin⟩=>by
 refine⟨α,m,_,Rl,hw,fun rs m1 vs H1 k n1 Rl1 rr F1=>?_⟩
 cases e:fg rs with
 |none=>rw[e]at k;exact k.elim
 |some ds =>
  rw[e]at k;obtain⟨hz,k⟩:=k;have g:=rr.imm e;refine⟨by rw[<-g.length];exact hz,fun p hp=>fin _ m1 _ _ k n1 (Rl1.lay hp) (show Den X.kx _ (.tuple ds) (.ref p)from ?_) (F1.trans (cW hp))⟩;simp only[Den];exact⟨p,vs,rfl,SqT.of aC,g.mono (bx (.inl hp))⟩
theorem GV(h:MA X es ws):ME X (.List es pos) (wLst ws):=(IY h).wk fun σ H Q ⟨α,m,Kc,Rl,hw,fin⟩=>by
 refine⟨α,m,_,Rl,hw,fun rs m1 vs H1 k n1 Rl1 rr F1=>?_⟩
 cases e:fg rs with
 |none=>rw[e]at k;exact k.elim
 |some ds =>
  rw[e]at k;obtain⟨hz,k⟩:=k;have g:=rr.imm e;refine⟨by rw[<-g.length];exact hz,fun p hp=>fin _ m1 _ _ k n1 (Rl1.lay hp) ((RelR.base Rl1 F1 (show RelR X.kx α H1 _ (.new ds) (.ref p)from⟨p,vs,rfl,hp,aC,g.mono (bx (.inl hp))⟩))) (F1.trans (cW hp))⟩
abbrev WC:=List R->MSt->(R->Prop)->Prop
def cM(K:Kx)(o:WC):List V->Hp->VK->Prop:=fun xs H Q=>∃α m σ H0 rs Kc,Rel K α m σ H/\RelRs K α H0 H rs xs/\o rs m Kc/\∀r v H',Kc r->Rel K α m σ H'->RelR K α H H' r v->Frm α H H'->Q v H'
def wCB(o:WC)(ws:WA):WE:=fun m K=>ws m fun rs m1=>o rs m1 fun r=>K r m1
theorem D8{o:WC}(h:tM X.kx (wCB o ws) σ H Q):tCB (cM X.kx o) (tMA X.kx ws) σ H Q:=by
 obtain⟨α,m,Kc,Rl,hw,fin⟩:=h;exact⟨α,m,_,Rl,hw,fun rs m1 vs H1 k n1 Rl1 rr F1=>⟨α,m1,σ,H,rs,_,Rl1,rr,k,fun r v H' k Rl' rr' F=>fin r m1 v H' k n1 Rl' (rr'.base Rl1 F1) (F1.trans F)⟩⟩
theorem yW{id:String}{o:WC}(hc:dn X (.builtin id) (cM X.kx o))(hg:Gl X x)(hm:X.mg x=none)(hv:bootBuiltins x=some (.builtin id))(ha:MA X (a::es) ws)(hn:x ≠ "__name__" :=by decide)(hdb:(x==("__debug__" : Str))=false:=by decide)
  (he:starEach (a::es) X.env=(false,eval a X.env)::starEach es X.env:=by first|exact aV rfl|rfl) (hpl:(backTo pos (starEach es X.env)).any (·.1)=false:=by rfl):ME X (.Call (.Name x p) (a::es) [] pos) (wCB o ws):=(yJ hc hg hm hv ha hn hdb he hpl).wk fun _ _ _ h=>D8 h
theorem vN{T:String}{o:WC}(hc:dn X (.type T) (cM X.kx o))(hg:Gl X x)(hm:X.mg x=none)(hv:bootBuiltins x=some (.type T))(ha:MA X (a::es) ws)(hn:x ≠ "__name__" :=by decide)(hdb:(x==("__debug__" : Str))=false:=by decide)
  (he:starEach (a::es) X.env=(false,eval a X.env)::starEach es X.env:=by first|exact aV rfl|rfl) (hpl:(backTo pos (starEach es X.env)).any (·.1)=false:=by rfl):ME X (.Call (.Name x p) (a::es) [] pos) (wCB o ws):=(wr hc hg hm hv ha hn hdb he hpl).wk fun _ _ _ h=>D8 h
end
inductive Ag where
 |imm (d:PyData)|own (ds:List PyData)|tr (t:PyData)
abbrev SpM:=List Ag->(R->List (List PyData)->Prop)->Prop
inductive RelAs(K:Kd)(H:Hp):List Ag->List V->Al->Prop where
 |nil:RelAs K H [] [] []
 |imm {d:PyData}{v:V}{as:List Ag}{vs:List V}{β:Al}:Den K H d v->RelAs K H as vs β->RelAs K H (.imm d::as) (v::vs) β
 |own {ds:List PyData}{a:Addr}{as:List Ag}{vs:List V}{β:Al}:OwnAt K H (.L a) ds->RelAs K H as vs β->RelAs K H (.own ds::as) (.ref a::vs) (.L a::β)
 |tr {t:PyData}{a:Addr}{τ:List (List Nat×Addr)}{as:List Ag}{vs:List V}{β:Al}:OwnAt K H (.T τ) [t]->τ.lookup []=some a->RelAs K H as vs β->RelAs K H (.tr t::as) (.ref a::vs) (.T τ::β)
theorem RelAs.length:∀{as:List Ag}{vs:List V}{β:Al},RelAs K H as vs β->as.length=vs.length
 |_,_,_,.nil=>rfl
 |_,_,_,.imm _ t=>by simp[t.length]
 |_,_,_,.own _ t=>by simp[t.length]
 |_,_,_,.tr _ _ t=>by simp[t.length]
structure xj(K:Kd)(H:Hp)(β:Al)(outs:List (List PyData)):Prop where
 len:outs.length=β.length
 at_:∀(j:Nat) (ao:Ao) (ds:List PyData),β[j]?=some ao->outs[j]?=some ds->OwnAt K H ao ds
def spOf(K:Kd)(n:Nat)(sp:SpM):Sp:=fun vs H Q _=>∃as β Kc,as.length=n/\(ads β).Nodup/\RelAs K H as vs β/\sp as Kc/\∀r outs v H',Kc r outs->xj K H' β outs->RelR K β H H' r v->Frm β H H'->Q v H'
theorem spOf.len{E:XK}(h:spOf K n sp vs H Q E):vs.length=n:=by
 obtain⟨as,β,Kc,hl,_,r,_⟩:=h;rw[<-r.length];exact hl
def gY(m:MSt):List R->Option (List Ag×List Nat)
 |[]=>some ([],[])
 | .imm d::rs=>match gY m rs with|some (as,ks)=>some (.imm d::as,ks)|none=>none
 | .obj k::rs=>match m.os[k]?,gY m rs with|some ds,some (as,ks)=>some (.own ds::as,k::ks)|_,_=>none
 | .at k []::rs=>match m.os[k]?,gY m rs with|some [t],some (as,ks)=>some (.tr t::as,k::ks)|_,_=>none
 |_::_=>none
def cr:List (List PyData)->List Nat->List (List PyData)->List (List PyData)
 |os,k::ks,o::outs=>cr (os.set k o) ks outs
 |os,_,_=>os
def mapR(ks:List Nat):R->R
 | .imm d=>.imm d
 | .new ds=>.new ds
 | .obj j=>.obj (ks.getD j 0)
 | .at j p=>.at (ks.getD j 0) p
 | .newT t=>.newT t
def o9(sp:SpM)(ws:WA):WE:=fun m K=>ws m fun rs m1=>match gY m1 rs with
 |some (as,ks)=>ks.Nodup/\sp as fun r outs=>K (mapR ks r) {m1 with os:=cr m1.os ks outs}
 |none=>False
theorem iy:∀(ks:List Nat) (os outs:List (List PyData)),(cr os ks outs).length=os.length
 |[],_,_=>by simp[cr]
 |_::_,_,[]=>by simp[cr]
 |k::ks,os,o::outs=>by simp[cr,iy ks]
theorem iU:∀(ks:List Nat) (os outs:List (List PyData)) (k:Nat),k∉ks->(cr os ks outs)[k]?=os[k]?
 |[],_,_,_,_=>by simp[cr]
 |_::_,_,[],_,_=>by simp[cr]
 |k'::ks,os,o::outs,k,h=>by
  rw[List.mem_cons]at h;rw[not_or]at h;show(cr (os.set k' o) ks outs)[k]?=_;rw[iU ks _ _ k h.2,List.getElem?_set_ne (Ne.symm h.1)]
theorem nQ:∀(ks:List Nat) (os outs:List (List PyData)) (j k:Nat) (ds:List PyData),ks.Nodup->ks[j]?=some k->outs[j]?=some ds->k<os.length->(cr os ks outs)[k]?=some ds
 |[],_,_,_,_,_,_,h,_,_=>by simp at h
 |_::_,_,[],_,_,_,_,_,h,_=>by simp at h
 |k'::ks,os,o::outs,0,k,ds,nd,h1,h2,hk=>by
  simp at h1 h2;subst h1;subst h2;show(cr (os.set k' o) ks outs)[k']?=_;rw[iU ks _ _ k' (List.nodup_cons.mp nd).1,List.getElem?_set_self hk]
 |k'::ks,os,o::outs,j+1,k,ds,nd,h1,h2,hk=>by
  exact nQ ks (os.set k' o) outs j k ds (List.nodup_cons.mp nd).2 (by simpa using h1) (by simpa using h2) (by simpa using hk)
theorem gh(α:Al):(ads α).Nodup↔(∀ao∈α,ao.ads.Nodup)/\α.Pairwise fun x y=>∀a∈x.ads,∀b∈y.ads,a≠b:=List.pairwise_flatMap
theorem fJ(nd:(ads α).Nodup){x y:Ao}(hi:α[i]?=some x)(hj:α[j]?=some y)(h:i≠j)(hx:a∈x.ads)(hy:a∈y.ads):False:=by
 have pw:=((gh α).mp nd).2;obtain⟨p1,q1⟩:=List.getElem?_eq_some_iff.mp hi;obtain⟨p2,q2⟩:=List.getElem?_eq_some_iff.mp hj;subst q1 q2;rcases Nat.lt_or_gt_of_ne h with l|l
 .exact List.pairwise_iff_getElem.mp pw i j p1 p2 l a hx a hy rfl
 .exact List.pairwise_iff_getElem.mp pw j i p2 p1 l a hy a hx rfl
theorem iZ{x:Ao}(hi:α[i]?=some x)(h:a∈x.ads):a∈ads α:=List.mem_flatMap.mpr ⟨x,List.mem_of_getElem? hi,h⟩
theorem gN(h:a∈ads α):∃(i:Nat) (x:Ao),α[i]?=some x/\a∈x.ads:=by
 obtain⟨ao,h1,h2⟩:=List.mem_flatMap.mp h;obtain⟨k,hk,e⟩:=List.mem_iff_getElem.mp h1;exact⟨k,ao,by rw[List.getElem?_eq_getElem hk,e],h2⟩
section
variable {K:Kx}{α:Al}{m:MSt}{σ:St}{H H0 H':Hp}
theorem gA(Rl:Rel K α m σ H):∀{rs:List R}{vs:List V}{as:List Ag}{ks:List Nat},RelRs K α H0 H rs vs->gY m rs=some (as,ks)->∃β,RelAs K H as vs β/\Paired (fun(k:Nat) (ao:Ao)=>α[k]?=some ao) ks β
 |_,_,_,_,.nil,e=>by cases e;exact⟨[],.nil,.nil⟩
 | _,_,as,ks,.cons (r:=.imm d) (rs:=rs) h t,e=>by
  simp only[gY]at e
  cases q:gY m rs with
  |none=>rw[q]at e;cases e
  |some p =>
   obtain⟨as',ks'⟩:=p;rw[q]at e;cases e;obtain⟨β,h1,h2⟩:=gA Rl t q;exact⟨β,.imm h h1,h2⟩
 | _,_,as,ks,.cons (r:=.obj k) (rs:=rs) h t,e=>by
  simp only[gY]at e
  cases q1:m.os[k]? with
  |none=>rw[q1]at e;cases e
  | some ds =>
   cases q:gY m rs with
   |none=>rw[q1,q]at e;cases e
   |some p =>
    obtain⟨as',ks'⟩:=p;rw[q1,q]at e;cases e;obtain⟨β,h1,h2⟩:=gA Rl t q;obtain⟨a,ea,rfl⟩:=h;exact⟨.L a::β,.own (Rl.own k _ ds ea q1) h1,.cons ea h2⟩
 |_,_,as,ks,.cons (r:=.at k []) (rs:=rs) h t,e=>by
  simp only[gY]at e
  split at e
  .rename_i t' as' ks' q1 q;cases e;obtain⟨β,h1,h2⟩:=gA Rl t q;obtain⟨τ,a,ea,el,rfl⟩:=h;exact⟨.T τ::β,.tr (Rl.own k _ _ ea q1) el h1,.cons ea h2⟩
  .cases e
 |_,_,_,_,.cons (r:=.at _ (_::_)) h t,e=>by cases e
 |_,_,_,_,.cons (r:=.new _) h t,e=>by cases e
 |_,_,_,_,.cons (r:=.newT _) h t,e=>by cases e
theorem fw(nd:(ads α).Nodup)(h:ks.Nodup)(p:Paired (fun(k:Nat) (ao:Ao)=>α[k]?=some ao) ks β):(ads β).Nodup:=by
 have one:=((gh α).mp nd).1
 induction p with
 |nil=>exact List.nodup_nil
 | @cons k ao ks β e t ih =>
  have ih':=ih (List.nodup_cons.mp h).2;rw[gh]at ih'⊢;refine⟨fun x hx=>?_,List.pairwise_cons.mpr ⟨fun y hy a ha b hb z=>?_,ih'.2⟩⟩
  .rcases List.mem_cons.mp hx with rfl|hx
   .exact one _ (List.mem_of_getElem? e)
   .exact ih'.1 x hx
  .subst z;obtain⟨j,hj,ej⟩:=List.mem_iff_getElem.mp hy;obtain⟨k',e1,e2⟩:=Paired.get2 t (i:=j) (b:=y) (by rw[List.getElem?_eq_getElem hj,ej]);have ek:k=k':=Classical.byContradiction fun ne=>fJ nd e e2 ne ha hb;exact(List.nodup_cons.mp h).1 (ek▸List.mem_of_getElem? e1)
theorem zF(Rl:Rel K α m σ H){outs:List (List PyData)}(nd:ks.Nodup)(p:Paired (fun(k:Nat) (ao:Ao)=>α[k]?=some ao) ks β)(O:xj K H' β outs)(F:Frm β H H') :
  Rel K α {m with os:=cr m.os ks outs} σ H'/\Frm α H H':=by
 have sub:∀a∈ads β,∃k ao,k∈ks/\α[k]?=some ao/\a∈ao.ads:=fun a ha=>by
  obtain⟨j,ao,ej,hm⟩:=gN ha;obtain⟨k',e1,e2⟩:=Paired.get2 p ej;exact⟨k',ao,List.mem_of_getElem? e1,e2,hm⟩
 have Fα:Frm α H H':=fun b o e n=>F b o e fun z=>by
  obtain⟨k,ao,_,e2,hm⟩:=sub b z;exact n (iZ e2 hm)
 have pe:=Rl.pers Fα;have own':∀(k:Nat) (ao:Ao) (ds:List PyData),α[k]?=some ao->(cr m.os ks outs)[k]?=some ds->OwnAt K H' ao ds:=fun k ao ds e1 e2'=>by
  have hk:k<m.os.length:=by rw[<-Rl.len];exact(List.getElem?_eq_some_iff.mp e1).1
  by_cases hm:k∈ks
  .obtain⟨j,hj,ej⟩:=List.mem_iff_getElem.mp hm;have z1:ks[j]?=some k:=by rw[List.getElem?_eq_getElem hj,ej]
   obtain⟨a',z2,z3⟩:=Paired.get' p z1;rw[e1]at z3;cases z3;have hj2:j<outs.length:=by rw[O.len];exact(List.getElem?_eq_some_iff.mp z2).1
   have z4:outs[j]?=some outs[j]:=List.getElem?_eq_getElem hj2;rw[nQ ks m.os outs j k _ nd z1 z4 hk]at e2';cases e2';exact O.at_ j _ _ z2 z4
  .rw[iU ks _ _ k hm]at e2';have q:=Rl.own k ao ds e1 e2';refine q.mono pe fun a ha=>?_;obtain⟨o,eo,_⟩:=q.mem ha;rw[eo];refine F a o eo fun z=>?_;obtain⟨k2,ao2,hk2,e3,hm2⟩:=sub a z;exact fJ Rl.nd e1 e3 (fun z=>hm (z▸hk2)) ha hm2
 refine⟨⟨Rl.nd,by show α.length=(cr m.os ks outs).length;rw[iy];exact Rl.len,own',Rl.vlen,fun i r h=>?_,Rl.npl,Rl.ebl,Rl.ebx.trans ⟨rfl,Fα,fun _ h=>.inl h,fun a ha=>?_⟩⟩,Fα⟩
 .obtain⟨v,ev,rv⟩:=Rl.var i r h;refine⟨v,ev,?_⟩
  cases r with
  |imm d=>exact Den.mono pe rv
  |obj k=>exact rv
  | «at» k p=>exact rv
  |new ds=>exact rv
  |newT t=>exact rv
 .obtain⟨k,ao,e1,hm⟩:=gN ha;have hk:k<(cr m.os ks outs).length:=by rw[iy,<-Rl.len];exact(List.getElem?_eq_some_iff.mp e1).1
  obtain⟨o,q,_⟩:=(own' k ao _ e1 (List.getElem?_eq_getElem hk)).mem hm;exact⟨o,q⟩
theorem yZ{K:Kd}(p:Paired (fun(k:Nat) (ao:Ao)=>α[k]?=some ao) ks β)(h:RelR K β H H' r v):RelR K α H H' (mapR ks r) v:=by
 have get:∀{j:Nat}{ao:Ao},β[j]?=some ao->α[ks.getD j 0]?=some ao:=fun {j ao} ea=>by
  obtain⟨k,z1,z2⟩:=Paired.get2 p ea;rw[List.getD_eq_getElem?_getD,z1];exact z2
 cases r with
 |imm d=>exact h
 |new ds=>exact h
 |newT t=>exact h
 |obj j =>
  obtain⟨a,ea,e⟩:=h;exact⟨a,get ea,e⟩
 | «at» j q =>
  obtain⟨τ,a,ea,el,e⟩:=h;exact⟨τ,a,get ea,el,e⟩
end
section
variable {X:Cx}{a:Expr}{es:List Expr}{ws:WA}{pos p:Pos}{k n:Nat}{f:Addr}{fd:FuncData}{ps:List Str}{sp:SpM}{x:Str}{CX:CXT}
theorem AE{E:XK}(h:tM X.kx (o9 sp ws) σ H Q)(hn:∀as Kc,sp as Kc->as.length=n):GF (spOf X.kd n sp) [] E (tMA X.kx ws) σ H Q:=by
 obtain⟨α,m,Kc,Rl,hw,fin⟩:=h;refine⟨α,m,_,Rl,hw,fun rs m1 vs H1 kk n1 Rl1 rr F1=>?_⟩
 cases e:gY m1 rs with
 |none=>rw[e]at kk;exact kk.elim
 |some q =>
  obtain⟨as,ks⟩:=q;rw[e]at kk;obtain⟨nd,hsp⟩:=kk;obtain⟨β,ra,pa⟩:=gA Rl1 rr e;refine⟨as,β,_,hn _ _ hsp,fw Rl1.nd nd pa,by rw[List.append_nil];exact ra,hsp,fun r outs v H' kk2 O rr2 F=>?_⟩;obtain⟨Rl2,F2⟩:=zF Rl1 nd pa O F;exact fin _ _ v H' kk2 n1 Rl2 ((yZ pa rr2).base Rl1 F1) (F1.trans F2)
theorem Bt{E:XK}(F:FnOk X.prog X.w X.K X.mg X.base CX k f fd ps (spOf X.kd n sp))(hr:Room k X.A)(hg:Gl X x)(hm:X.mg x=some (.ref f))(hk:PySem.W.keepIn X.K (.ref f)=true)(hb:Binds X.K fd ps [])(hx:qF CX X E)(hn:∀as Kc,sp as Kc->as.length=n)
  (ha:MA X (a::es) ws) (hdb:(x==("__debug__" : Str))=false:=by decide) (he:starEach (a::es) X.env=(false,eval a X.env)::starEach es X.env:=by first|exact aV rfl|rfl) (hpl:(backTo pos (starEach es X.env)).any (·.1)=false:=by rfl) :
  ME X (.Call (.Name x p) (a::es) [] pos) (o9 sp ws):=(Bg (E:=E) F hr hg hm hk hb .nil hx ha hdb he hpl).wk fun _ _ _ h=>AE h hn
end
structure cZ where
 nx:MSt->Prop
 rt:R->MSt->Prop
 bk:MSt->Prop:=fun _=>False
 ct:MSt->Prop:=fun _=>False
abbrev WS:=cZ->MSt->Prop
theorem RelR.ext{np:Nat}{α2:Al}(x:Ext np α H α1 H1)(h:RelR K α2 H1 H2 r v):RelR K α2 H H2 r v:=by
 cases r with
 |imm d=>exact h
 |obj k=>exact h
 | «at» k p=>exact h
 |new ds =>
  obtain⟨a,xs,e,n,q,g⟩:=h;exact⟨a,xs,e,x.nil n,q,g⟩
 |newT t =>
  obtain⟨τ,a,e,e1,nd,n,g⟩:=h;exact⟨τ,a,e,e1,nd,fun b hb=>x.nil (n b hb),g⟩
structure EndsOk(K:Kx)(np:Nat)(α:Al)(H:Hp)(De:cZ)(D:Ends):Prop where
 nx:∀α' m' σ' H',De.nx m'->m'.np=np->Rel K α' m' σ' H'->Ext np α H α' H'->D.nx σ' H'
 rt:∀r α' m' σ' v H',De.rt r m'->m'.np=np->Rel K α' m' σ' H'->RelR K α' H H' r v->Ext np α H α' H'->D.rt v H'
 bk:∀α' m' σ' H',De.bk m'->m'.np=np->Rel K α' m' σ' H'->Ext np α H α' H'->D.bk σ' H'
 ct:∀α' m' σ' H',De.ct m'->m'.np=np->Rel K α' m' σ' H'->Ext np α H α' H'->D.ct σ' H'
theorem EndsOk.ext{K:Kx}{np:Nat}(h:EndsOk K np α H De D)(x:Ext np α H α1 H1):EndsOk K np α1 H1 De D where
 nx:=fun α' m' σ' H' k n R y=>h.nx α' m' σ' H' k n R (x.trans y)
 rt:=fun r α' m' σ' v H' k n R rr y=>h.rt r α' m' σ' v H' k n R (rr.ext x) (x.trans y)
 bk:=fun α' m' σ' H' k n R y=>h.bk α' m' σ' H' k n R (x.trans y)
 ct:=fun α' m' σ' H' k n R y=>h.ct α' m' σ' H' k n R (x.trans y)
def tMS(K:Kx)(w:WS):TS:=fun D σ H=>∃α m De,Rel K α m σ H/\w De m/\EndsOk K m.np α H De D
abbrev MS(X:Cx)(st:Stmt)(w:WS):Prop:=PS X st (tMS X.kx w)
abbrev MSs(X:Cx)(st:List Stmt)(w:WS):Prop:=PSs X st (tMS X.kx w)
section
variable {X:Cx}{a b c e:Expr}{es:List Expr}{wa wb wc we:WE}{pos:Pos}{st:Stmt}{rest:List Stmt}{w u:WS}
def Cc:WS:=fun D m=>D.nx m
def wSeq(w u:WS):WS:=fun D m=>w {D with nx:=fun m'=>u D m' } m
theorem CG:MSs X [] Cc:=(AY (X:=X)).wk fun D σ H ⟨α,m,De,Rl,hw,k⟩=>k.nx α m σ H hw rfl Rl (.of Rl (Frm.refl _ _))
theorem yg(h1:MS X st w)(h2:MSs X rest u):MSs X (st::rest) (wSeq w u):=(zk h1 h2).wk fun D σ H ⟨α,m,De,Rl,hw,k⟩ =>
 ⟨α,m,_,Rl,hw,⟨fun α' m' σ' H' q n R y=>⟨α',m',De,R,q,by rw[n];exact k.ext y⟩,k.rt,k.bk,k.ct⟩⟩
theorem Bv(h1:MS X st w):MSs X [st] w:=(CA h1).wk fun D σ H h=>h
end
section
variable {X:Cx}{a b c e:Expr}{es:List Expr}{wa wb wc we:WE}{ws:WA}{wt:WT}{pos:Pos}{st:Stmt}{rest body body2:List Stmt}{w u:WS}
def wRet(we:WE):WS:=fun D m=>we m fun r m'=>D.rt r m'
theorem Ja(he:ME X e we):MS X (.Return (some e) pos) (wRet we):=(Gn he).wk fun D σ H ⟨α,m,De,Rl,hw,k⟩ =>
 ⟨α,m,_,Rl,hw,fun r m' v H' q n Rl' rr F=>k.rt r α m' σ v H' q n Rl' rr (.of Rl' F)⟩
def BH(we:WE):WS:=fun D m=>we m fun _ m'=>D.nx m'
theorem Cw(he:ME X e we)(hs:swapsWith e none pos.line X.env=pure false:=by rfl):MS X (.Expr e pos) (BH we):=(AZ he hs).wk fun D σ H ⟨α,m,De,Rl,hw,k⟩ =>
 ⟨α,m,_,Rl,hw,fun r m' v H' q n Rl' rr F=>k.nx α m' σ H' q n Rl' (.of Rl' F)⟩
def wIfS(t:WT)(w u:WS):WS:=fun D m=>t m fun c m'=>if c=true then w D m' else u D m'
theorem K9(ht:MT X t wt)(h1:MSs X body w)(h2:MSs X body2 u):MS X (.If t body body2 pos) (wIfS wt w u):=(KI ht h1 h2).wk fun D σ H ⟨α,m,De,Rl,hw,k⟩=>by
 refine⟨α,m,_,Rl,hw,fun bb m' H' q n Rl' F=>?_⟩;have k':EndsOk X.kx m'.np α H' De D:=by rw[n];exact k.ext (.of Rl' F)
 cases bb with
 |true=>rw[if_pos rfl]at q;exact iteT ⟨α,m',De,Rl',q,k'⟩
 |false=>rw[if_neg Bool.false_ne_true]at q;exact iteF ⟨α,m',De,Rl',q,k'⟩
def zU:WS:=fun _ _=>False
theorem yT:MS X st zU:=(yd (X:=X)).wk fun D σ H ⟨α,m,De,Rl,hw,k⟩=>hw
def MSt.setV(m:MSt)(i:Nat)(r:R):MSt:={m with vs:=m.vs.set i (some r)}
def RenR(ρ:List Nat)(o:Option (Option R)):R->Prop
 | .imm d=>o=some (some (.imm d))
 | .obj k=>∃j,ρ[k]?=some j/\o=some (some (.obj j))
 | .at k p=>∃j,ρ[k]?=some j/\o=some (some (.at j p))
 | .new _=>False
 | .newT _=>False
structure Ren(ρ:List Nat)(m m2:MSt):Prop where
 nd:ρ.Nodup
 lt:∀k∈ρ,k<m.os.length
 pre:ρ.take m.np=List.range m.np
 npl:m.np≤ρ.length
 os:m2.os=ρ.map fun k=>m.os.getD k []
 np:m2.np=m.np
 vl:m2.vs.length=m.vs.length
 vs:∀(j:Nat) (r:R),m2.vs[j]?=some (some r)->RenR ρ m.vs[j]? r
def upR(D:MSt->Prop)(m:MSt):Prop:=D m\/∃ρ m2,Ren ρ m m2/\D m2
def mw(i:Nat)(D:MSt->Prop)(m:MSt):R->Prop
 | .imm d=>upR D (m.setV i (.imm d))
 | .obj k=>upR D (m.setV i (.obj k))
 | .at k p=>upR D (m.setV i (.at k p))
 | .new ds=>upR D {vs:=m.vs.set i (some (.obj m.os.length)),os:=m.os++[ds],np:=m.np} \/
   ∃k,m.vs[i]?=some (some (.obj k))/\m.np≤k/\(∀j:Nat,j≠i->m.vs[j]?≠some (some (.obj k)))/\D {m with os:=m.os.set k ds}
 | .newT t=>upR D {vs:=m.vs.set i (some (.at m.os.length [])),os:=m.os++[[t]],np:=m.np}
theorem fY{α:Al}{n:Nat}(hl:α.length=n):∀{ρ:List Nat},(∀k∈ρ,k<n)->Paired (fun(k:Nat) (ao:Ao)=>α[k]?=some ao) ρ (ρ.map fun k=>α.getD k (.L 0))
 |[],_=>.nil
 | k::ρ,h=>.cons (by
   have hk:k<α.length:=by rw[hl];exact h k List.mem_cons_self
   show α[k]?=some (α.getD k (.L 0));rw[List.getD_eq_getElem?_getD,List.getElem?_eq_getElem hk];rfl) (fY hl fun j hj=>h j (List.mem_cons_of_mem _ hj))
theorem Bi{K:Kx}{m m2:MSt}{ρ:List Nat}(Rl:Rel K α m σ H)(N:Ren ρ m m2):∃α2,Rel K α2 m2 σ H/\Ext m.np α H α2 H:=by
 have pr:=fY Rl.len N.lt;have get:∀(k:Nat) (ao:Ao),(ρ.map fun k=>α.getD k (.L 0))[k]?=some ao->∃j:Nat,ρ[k]?=some j/\α[j]?=some ao:=fun k ao z=>by
  obtain⟨j,h1,h2⟩:=Paired.get2 pr z;exact⟨j,h1,h2⟩
 have fwd:∀(k j:Nat) (ao:Ao),ρ[k]?=some j->α[j]?=some ao->(ρ.map fun k=>α.getD k (.L 0))[k]?=some ao:=fun k j ao z1 z2=>by
  obtain⟨ao',z3,z4⟩:=Paired.get' pr z1;rw[z2]at z4;cases z4;exact z3
 have pre':(ρ.map fun k=>α.getD k (.L 0)).take m.np=α.take m.np:=by
  apply List.ext_getElem?;intro l;rw[List.getElem?_take,List.getElem?_take]
  by_cases hl:l<m.np
  .rw[if_pos hl,if_pos hl];have:ρ[l]?=some l:=by
    have e:=congrArg (·[l]?) N.pre;simp only[List.getElem?_take,if_pos hl]at e;rw[e,List.getElem?_range hl]
   have hl2:l<α.length:=Nat.lt_of_lt_of_le hl Rl.npl;rw[fwd l l α[l] this (List.getElem?_eq_getElem hl2),List.getElem?_eq_getElem hl2]
  .rw[if_neg hl,if_neg hl]
 have ext:Ext m.np α H (ρ.map fun k=>α.getD k (.L 0)) H:=⟨pre',Frm.refl _ _,fun a ha=>by
  obtain⟨k,ao,e1,hm⟩:=gN ha;obtain⟨j,_,e2⟩:=get k ao e1;exact .inl (iZ e2 hm),fun a ha=>by
  obtain⟨o,q,_⟩:=Rl.mem ha;exact⟨_,q⟩⟩
 refine⟨ρ.map fun k=>α.getD k (.L 0),⟨fw Rl.nd N.nd pr,?_,fun k ao ds z1 z2=>?_,?_,fun j r z=>?_,?_,by rw[N.np];exact Rl.ebl,Rl.ebx.trans (ext.less Rl.ebl)⟩,ext⟩
 .rw[N.os,List.length_map,List.length_map]
 .obtain⟨j,q,qa⟩:=get k ao z1;rw[N.os,List.getElem?_map,q]at z2;have hj:j<m.os.length:=N.lt j (List.mem_of_getElem? q);have z2':m.os.getD j []=ds:=Option.some.inj z2;refine Rl.own j ao ds qa ?_;rw[<-z2',List.getD_eq_getElem?_getD,List.getElem?_eq_getElem hj];rfl
 .rw[N.vl];exact Rl.vlen
 .have h:=N.vs j r z
  cases r with
  |imm d=>exact Rl.var j (.imm d) h
  |new _=>exact h.elim
  |newT _=>exact h.elim
  |obj k =>
   obtain⟨j',q,h⟩:=h;obtain⟨v,ev,a,ea,e⟩:=Rl.var j (.obj j') h;exact⟨v,ev,a,fwd k j' _ q ea,e⟩
  | «at» k p =>
   obtain⟨j',q,h⟩:=h;obtain⟨v,ev,τ,a,ea,el,e⟩:=Rl.var j (.at j' p) h;exact⟨v,ev,τ,a,fwd k j' _ q ea,el,e⟩
 .rw[N.np,List.length_map];exact N.npl
def wSet(i:Nat)(we:WE):WS:=fun D m=>we m fun r m'=>mw i D.nx m' r
theorem cq{K:Kx}{m:MSt}(Rl:Rel K α m σ H)(h:RelS K α H r v):Rel K α (m.setV i r) (σ.set i (some v)) H:=by
 refine⟨Rl.nd,Rl.len,Rl.own,?_,fun j r' e=>?_,Rl.npl,Rl.ebl,Rl.ebx⟩
 .show(σ.set i (some v)).length=(m.vs.set i (some r)).length;rw[List.length_set,List.length_set];exact Rl.vlen
 .have e':(m.vs.set i (some r))[j]?=some (some r'):=e
  by_cases hj:i=j
  .subst hj
   by_cases hi:i<m.vs.length
   .rw[List.getElem?_set_self hi]at e';cases e';exact⟨v,List.getElem?_set_self (by rw[Rl.vlen];exact hi),h⟩
   .rw[List.getElem?_eq_none (by rw[List.length_set];omega)]at e';cases e'
  .rw[List.getElem?_set_ne hj]at e'⊢;exact Rl.var j r' e'
theorem lG{K:Kx}{m:MSt}(Rl:Rel K α m σ H)(R0:∃m0 σ0,Rel K α m0 σ0 H0)(F:Frm α H0 H)(nd:ao.ads.Nodup)(hn:∀b∈ao.ads,H0 b=none)(g:OwnAt K H ao ds) :
  Rel K (α++[ao]) {m with os:=m.os++[ds]} σ H/\∀np,np≤α.length->Ext np α H0 (α++[ao]) H:=by
 obtain⟨m0,σ0,Rl0⟩:=R0;have pα:∀b∈ao.ads,b∉ads α:=fun b hb=>Rl0.out (hn b hb);have one:ads [ao]=ao.ads:=by simp[ads]
 have ext:∀np,np≤α.length->Ext np α H0 (α++[ao]) H:=fun np hnp=>⟨by rw[List.take_append_of_le_length hnp],F,fun a ha=>by
  rw[ii,one]at ha;rcases List.mem_append.mp ha with z|z
  .exact .inl z
  .exact .inr (hn a z),fun a ha=>by
  obtain⟨o,q,_⟩:=Rl.mem ha;exact⟨_,q⟩⟩
 refine⟨⟨?_,by simp[Rl.len],fun k a es z1 z2=>?_,Rl.vlen,fun j r' z=>?_,by have:=Rl.npl;show m.np≤(α++[ao]).length;rw[List.length_append];omega,Rl.ebl,Rl0.ebx.trans (ext _ ?_)⟩,ext⟩
 .rw[ii,one];exact List.nodup_append.mpr ⟨Rl.nd,nd,fun x hx y hy e=>pα y hy (e▸hx)⟩
 .have z2':(m.os++[ds])[k]?=some es:=z2
  by_cases hk:k<α.length
  .rw[List.getElem?_append_left hk]at z1;rw[List.getElem?_append_left (by rw[<-Rl.len];exact hk)]at z2';exact Rl.own k a es z1 z2'
  .rw[List.getElem?_append_right (by omega)]at z1;rw[List.getElem?_append_right (by rw[<-Rl.len];omega)]at z2';have hk0:k-α.length=0:=by
    have:=(List.getElem?_eq_some_iff.mp z1).1;simp at this;omega
   rw[hk0]at z1;rw[<-Rl.len,hk0]at z2';simp at z1 z2';subst z1;subst z2';exact g
 .obtain⟨v,ev,rv⟩:=Rl.var j r' z;refine⟨v,ev,?_⟩
  cases r' with
  |imm d=>exact rv
  |new _=>exact rv
  |newT _=>exact rv
  |obj k =>
   obtain⟨a,ea,e⟩:=rv;exact⟨a,by rw[List.getElem?_append_left (List.getElem?_eq_some_iff.mp ea).1];exact ea,e⟩
  | «at» k p =>
   obtain⟨τ,a,ea,e⟩:=rv;exact⟨τ,a,by rw[List.getElem?_append_left (List.getElem?_eq_some_iff.mp ea).1];exact ea,e⟩
 .exact Nat.le_trans Rl.ebl Rl.npl
theorem oU{K:Kx}{m:MSt}{Q:St->Hp->Prop}{np:Nat}(Rl:Rel K α m σ H)(n:m.np=np)(F:Frm α H0 H)(h:RelR K α H0 H r v)(q:mw i P m r)
  (k:∀α' m' σ' H',P m'->m'.np=np->Rel K α' m' σ' H'->Ext np α H0 α' H'->Q σ' H') (R0:∃m0 σ0,Rel K α m0 σ0 H0):Q (σ.set i (some v)) H:=by
 have up:∀α' m' σ' H',upR P m'->m'.np=np->Rel K α' m' σ' H'->Ext np α H0 α' H'->Q σ' H':=fun α' m' σ' H' q n R x=>by
  rcases q with q|⟨ρ,m2,N,q⟩
  .exact k α' m' σ' H' q n R x
  .obtain⟨α2,R2,x2⟩:=Bi R N;rw[n]at x2;exact k α2 m2 σ' H' q (N.np.trans n) R2 (x.trans x2)
 have npα:np≤α.length:=by rw[<-n];exact Rl.npl
 cases r with
 |imm d=>exact up α _ _ H q n (cq Rl (r:=.imm d) h) (.of (cq (i:=i) Rl (r:=.imm d) h) F)
 |obj j=>exact up α _ _ H q n (cq Rl (r:=.obj j) h) (.of (cq (i:=i) Rl (r:=.obj j) h) F)
 | «at» j p=>exact up α _ _ H q n (cq Rl (r:=.at j p) h) (.of (cq (i:=i) Rl (r:=.at j p) h) F)
 |newT t =>
  obtain⟨τ,p,rfl,el,nd,hn,g⟩:=h;obtain⟨base,ext⟩:=lG Rl R0 F (ao:=.T τ) nd hn g;exact up (α++[.T τ]) _ _ H q n (cq base (r:=.at m.os.length []) ⟨τ,p,by rw[List.getElem?_append_right (by rw[Rl.len];exact Nat.le_refl _),<-Rl.len];simp,el,rfl⟩) (ext np npα)
 | new ds =>
  obtain⟨p,xs,rfl,hn,hp,g⟩:=h;have R0':=R0;obtain⟨m0,σ0,Rl0⟩:=R0';have pα:p∉ads α:=Rl0.out hn;rcases q with q|⟨j,e1,e2,e3,q⟩
  .
   obtain⟨base,ext⟩:=lG Rl R0 F (ao:=.L p) (by simp[Ao.ads]) (fun b hb=>by cases List.mem_singleton.mp hb;exact hn) ⟨xs,hp,g⟩;exact up (α++[.L p]) _ _ H q n (cq base (r:=.obj m.os.length) ⟨p,by rw[List.getElem?_append_right (by rw[Rl.len];exact Nat.le_refl _),<-Rl.len];simp,rfl⟩) (ext np npα)
  .
   obtain⟨aj,eaj⟩:∃aj,α[j]?=some (.L aj):=by
    obtain⟨v,_,a,ea,_⟩:=Rl.var i _ e1;exact⟨a,ea⟩
   have hj:j<α.length:=(List.getElem?_eq_some_iff.mp eaj).1;have hi:i<m.vs.length:=(List.getElem?_eq_some_iff.mp e1).1;have ndS:(ads (α.set j (.L p))).Nodup:=by
    have z:=(gh α).mp Rl.nd;rw[gh];refine⟨fun ao ha=>?_,List.pairwise_iff_getElem.mpr fun i1 i2 h1 h2 hlt a ha b hb e=>?_⟩
    .rcases List.mem_or_eq_of_mem_set ha with y|y
     .exact z.1 ao y
     .subst y;simp[Ao.ads]
    .subst e;rw[List.length_set]at h1 h2;have mem:∀(l:Nat) (hl:l<α.length),a∈(α[l]).ads->a∈ads α:=fun l hl h=>iZ (List.getElem?_eq_getElem hl) h
     by_cases c1:j=i1
     .subst c1;rw[List.getElem_set_self]at ha;rw[List.getElem_set_ne (by omega)]at hb
      cases List.mem_singleton.mp ha
      exact pα (mem i2 h2 hb)
     .rw[List.getElem_set_ne c1]at ha
      by_cases c2:j=i2
      .subst c2;rw[List.getElem_set_self]at hb
       cases List.mem_singleton.mp hb
       exact pα (mem i1 h1 ha)
      .rw[List.getElem_set_ne c2]at hb;exact fJ Rl.nd (List.getElem?_eq_getElem h1) (List.getElem?_eq_getElem h2) (Nat.ne_of_lt hlt) ha hb
   have ext:Ext np α H0 (α.set j (.L p)) H:=by
    refine⟨?_,F,fun a ha=>?_,fun a ha=>?_⟩
    .apply List.ext_getElem?;intro l;rw[List.getElem?_take,List.getElem?_take]
     by_cases hl:l<np
     .rw[if_pos hl,if_pos hl,List.getElem?_set_ne (by omega)]
     .rw[if_neg hl,if_neg hl]
    .obtain⟨l,ao,el,hm⟩:=gN ha
     by_cases c1:j=l
     .subst c1;rw[List.getElem?_set_self hj]at el;cases el
      cases List.mem_singleton.mp hm
      exact .inr hn
     .rw[List.getElem?_set_ne c1]at el;exact .inl (iZ el hm)
    .obtain⟨o,q,_⟩:=Rl.mem ha;exact⟨_,q⟩
   have Rl':Rel K (α.set j (.L p)) {m with os:=m.os.set j ds} (σ.set i (some (.ref p))) H:=by
    refine⟨ndS,by simp[Rl.len],fun k a es z1 z2=>?_,by rw[List.length_set];exact Rl.vlen,fun l r' z=>?_,by rw[List.length_set];exact Rl.npl,Rl.ebl,Rl0.ebx.trans (ext.less (by have:=Rl.ebl;omega))⟩
    .have z2':(m.os.set j ds)[k]?=some es:=z2
     by_cases c1:j=k
     .subst c1;rw[List.getElem?_set_self hj]at z1;rw[List.getElem?_set_self (by rw[<-Rl.len];exact hj)]at z2'
      cases z1;cases z2'
      exact⟨xs,hp,g⟩
     .rw[List.getElem?_set_ne c1]at z1 z2';exact Rl.own k a es z1 z2'
    .have z':m.vs[l]?=some (some r'):=z
     by_cases hl:i=l
     .subst hl;rw[e1]at z';cases z';exact⟨.ref p,List.getElem?_set_self (by rw[Rl.vlen];exact hi),p,List.getElem?_set_self hj,rfl⟩
     .obtain⟨v,ev,rv⟩:=Rl.var l r' z';refine⟨v,by rw[List.getElem?_set_ne hl];exact ev,?_⟩
      cases r' with
      |imm d=>exact rv
      |new _=>exact rv
      |newT _=>exact rv
      |obj k =>
       obtain⟨a,ea,e⟩:=rv;refine⟨a,?_,e⟩;rw[List.getElem?_set_ne]
       .exact ea
       .rintro rfl;exact e3 l (Ne.symm hl) z'
      | «at» k p' =>
       obtain⟨τ,a,ea,e⟩:=rv;refine⟨τ,a,?_,e⟩;rw[List.getElem?_set_ne]
       .exact ea
       .rintro rfl;rw[eaj]at ea;cases ea
   exact k (α.set j (.L p)) _ _ H q n Rl' ext
theorem Fc(hN:X.N.Nodup)(hi:X.N[i]?=some x)(hx:Loc X.env.scope x)(he:ME X e we)(hs:swapsWith e (some (.Name x pos')) pos.line X.env=pure false:=by rfl)(hf:X.fn x=true\/X.env.scope.names.lookup x=some .local:=by first|exact .inl rfl|exact .inr rfl|assumption) :
  MS X (.Assign [.Name x pos'] e pos) (wSet i we):=(E9 hN hi hx he hs hf).wk fun D σ H ⟨α,m,De,Rl,hw,k⟩ =>
 ⟨α,m,_,Rl,hw,fun r m' v H' q n Rl' rr F=>oU (Q:=D.nx) Rl' n F rr q k.nx ⟨m,σ,Rl⟩⟩
abbrev WG:=PyData->MSt->(MSt->Prop)->Prop
abbrev WGs:=List PyData->MSt->(MSt->Prop)->Prop
def tMG(K:Kx)(g:WG):TG:=fun v σ H Q=>∃α m d Kc,Rel K α m σ H/\Den K H d v/\g d m Kc/\∀m' σ',Kc m'->m'.np=m.np->Rel K α m' σ' H->Q σ' H
def tMGs(K:Kx)(g:WGs):TGs:=fun vs σ H Q=>∃α m ds Kc,Rel K α m σ H/\DenAll K H ds vs/\g ds m Kc/\∀m' σ',Kc m'->m'.np=m.np->Rel K α m' σ' H->Q σ' H
theorem PG.wk{X:Cx}{e:Expr}{t t':TG}(h:PG X e t)(k:∀v σ H Q,t' v σ H Q->t v σ H Q):PG X e t':=fun pins s σ H v u Q I r q=>h pins s σ H v u Q I r (k _ _ _ _ q)
theorem PGs.wk{X:Cx}{e:List Expr}{t t':TGs}(h:PGs X e t)(k:∀v σ H Q,t' v σ H Q->t v σ H Q):PGs X e t':=fun pins s σ H v u Q I r q=>h pins s σ H v u Q I r (k _ _ _ _ q)
abbrev MG(X:Cx)(e:Expr)(g:WG):Prop:=PG X e (tMG X.kx g)
abbrev MGs(X:Cx)(es:List Expr)(g:WGs):Prop:=PGs X es (tMGs X.kx g)
def gM(i:Nat):WG:=fun d m K=>K (m.setV i (.imm d))
def BO:WGs:=fun ds m K=>ds=[]/\K m
def xk(g:WG)(gs:WGs):WGs:=fun ds m K=>match ds with|d::r=>g d m fun m'=>gs r m' K|[]=>False
def AK(n:Nat)(gs:WGs):WG:=fun d m K=>match d with| .tuple ds=>ds.length=n/\gs ds m K|_=>False
theorem AG(hN:X.N.Nodup)(hi:X.N[i]?=some x)(hx:Loc X.env.scope x)(hf:X.fn x=true\/X.env.scope.names.lookup x=some .local:=by first|exact .inl rfl|exact .inr rfl|assumption):MG X (.Name x pos) (gM i):=(CZ hN hi hx hf).wk fun v σ H Q ⟨α,m,d,Kc,Rl,hd,hw,fin⟩ =>
 fin _ _ hw rfl (cq Rl hd)
theorem Dh:MGs X [] BO:=(Cb (X:=X)).wk fun v σ H Q ⟨α,m,d,Kc,Rl,hd,hw,fin⟩=>by
 obtain⟨rfl,hw⟩:=hw;simp only[DenAll]at hd;exact⟨hd,fin m σ hw rfl Rl⟩
theorem yN{e:Expr}{es:List Expr}(h1:MG X e g)(h2:MGs X es gs)
  (hs:(assignEach (e::es) X.env).map (·.2)=assign e X.env::(assignEach es X.env).map (·.2):=by rfl):MGs X (e::es) (xk g gs):=(yw h1 h2 hs).wk fun v σ H Q ⟨α,m,ds,Kc,Rl,hd,hw,fin⟩=>by
 cases ds with
 |nil=>exact hw.elim
 |cons d r =>
  simp only[DenAll]at hd;obtain⟨x,vr,rfl,h3,h4⟩:=hd;exact⟨x,vr,rfl,α,m,d,_,Rl,h3,hw,fun m' σ' k n Rl'=>⟨α,m',r,_,Rl',h4,k,fun m2 σ2 k2 n2 Rl2=>fin m2 σ2 k2 (n2.trans n) Rl2⟩⟩
theorem Gf{es:List Expr}{k:Nat}(h:MGs X es gs)(hc:X.calm=true:=by rfl)
  (hn:(assignEach es X.env).length=n:=by rfl) (hst:(assignEach es X.env).findIdx? (·.1)=none:=by rfl):MG X (.Tuple es k pos) (AK n gs):=(Fq hc h hn hst).wk fun v σ H Q ⟨α,m,d,Kc,Rl,hd,hw,fin⟩=>by
 cases d with
 |tuple ds =>
  simp only[Den]at hd;obtain⟨a,xs,e,f,g⟩:=hd;exact⟨a,xs,e,f,g.length.symm.trans hw.1,α,m,ds,Kc,Rl,g,hw.2,fin⟩
 |none=>exact hw.elim
 |bool _=>exact hw.elim
 |int _=>exact hw.elim
 |str _=>exact hw.elim
 |list _=>exact hw.elim
 |dict _=>exact hw.elim
def cX(P:PyData->Prop):R->Prop
 | .imm d=>P d
 |_=>False
theorem dU{K:Kx}{P:PyData->Prop}(rr:RelR K α Hb H r v)(h:cX P r):∃d,r = .imm d/\Den K H d v/\P d:=by
 cases r with
 |imm d=>exact⟨d,rfl,rr,h⟩
 |obj _=>exact h.elim
 |new _=>exact h.elim
 | «at» _ _=>exact h.elim
 |newT _=>exact h.elim
def wAsg(we:WE)(g:WG):WS:=fun D m=>we m fun r m'=>cX (fun d=>g d m' D.nx) r
theorem E8(he:ME X e we)(hg:MG X tg g)(hs:swapsWithSole [tg] e pos.line X.env=pure false:=by rfl)(hw:swappedStores [tg] e X.env=pure none:=by rfl)
  (h1:(assignEach [tg] X.env).map (·.2)=[assign tg X.env]:=by rfl):MS X (.Assign [tg] e pos) (wAsg we g):=(zY he hg hs hw h1).wk fun D σ H ⟨α,m,De,Rl,hw,k⟩=>by
 refine⟨α,m,_,Rl,hw,fun r m' v H' q n Rl' rr F=>?_⟩;obtain⟨d,er,hd,q⟩:=dU rr q;exact⟨α,m',d,_,Rl',hd,q,fun m2 σ2 q2 n2 Rl2=>k.nx α m2 σ2 H' q2 (n2.trans n) Rl2 (.of Rl2 F)⟩
def wPar(i j:Nat)(ws:WA):WS:=fun D m=>ws m fun rs m'=>match rs with|[.imm d1,.imm d2]=>D.nx ((m'.setV i (.imm d1)).setV j (.imm d2))|_=>False
theorem GX{px py pt:Pos}{kt k2 pt2}(hN:X.N.Nodup)(hi:X.N[i]?=some x)(hj:X.N[j]?=some y)(hij:i≠j)
  (hx:X.env.scope.names.lookup x=some .local) (hy:X.env.scope.names.lookup y=some .local) (ha:MA X [a,b] ws)
  (hw:swappedStores [.Tuple [.Name x px,.Name y py] kt pt] (.Tuple [a,b] k2 pt2) X.env=pure (some [x,y])) (hc:X.calm=true:=by rfl)
  (hs:swapsWithSole [.Tuple [.Name x px,.Name y py] kt pt] (.Tuple [a,b] k2 pt2) pos.line X.env=pure false:=by rfl) :
  MS X (.Assign [.Tuple [.Name x px,.Name y py] kt pt] (.Tuple [a,b] k2 pt2) pos) (wPar i j ws):=(Ga hc hN hi hj hij hx hy ha hw hs).wk fun D σ H ⟨α,m,De,Rl,hw,k⟩=>by
 refine⟨α,m,_,Rl,hw,fun rs m' vs H' q n Rl' rr F=>?_⟩;obtain⟨d1,d2,er,q⟩:∃d1 d2,rs=[.imm d1,.imm d2]/\De.nx ((m'.setV i (.imm d1)).setV j (.imm d2)):=by
  split at q
  .exact⟨_,_,rfl,q⟩
  .exact q.elim
 subst er
 cases rr with
 |cons h1 rr =>
  cases rr with
  |cons h2 rr =>
  cases rr;exact⟨_,_,rfl,k.nx α _ _ H' q n (cq (cq Rl' (r:=.imm d1) h1) (r:=.imm d2) h2) (.of Rl' F)⟩
end
structure Src where
 ds:List PyData
 own:Option Nat
structure Wks(K:Kd)(J:It)(ds:List PyData)(C:Hp->Prop):Prop where
 stop:∀H,C H->J.stop ds.length H
 go:∀i H,i<ds.length->C H->J.go i H
 yld:∀i H x H',i<ds.length->C H->J.yld i H x H'->(∀b o,H b=some o->H' b=some o)/\∃d,ds[i]?=some d/\Den K H' d x
def o8(K:Kd)(α:Al)(H:Hp)(s:Src)(J:It):Prop :=
 match s.own with
 |none=>∃C:Hp->Prop,Wks K J s.ds C/\C H/\∀H1 H2,C H1->Pers H1 H2->C H2
 |some k=>∃a,α[k]?=some (.L a)/\Wks K J s.ds fun H=>∃xs,H a=some (.lst xs)/\DenAll K H s.ds xs
abbrev WI:=MSt->(Src->MSt->Prop)->Prop
def tMI(K:Kx)(w:WI):TI:=fun σ H Rq=>∃α m Kc,Rel K α m σ H/\w m Kc/\∀s m' J H',Kc s m'->m'.np=m.np->Rel K α m' σ H'->Frm α H H'->o8 K α H' s J->Rq J H'
theorem PI.wk{t t':TI}(h:PI X tg e t)(k:∀σ H Q,t' σ H Q->t σ H Q):PI X tg e t':=fun pins s σ H Q I q=>h pins s σ H Q I (k _ _ _ q)
abbrev MI(X:Cx)(tg e:Expr)(w:WI):Prop:=PI X tg e (tMI X.kx w)
section
variable {X:Cx}{tg a b c e iter:Expr}{es:List Expr}{wa wb wc we:WE}{ws:WA}{wt:WT}{pos:Pos}{st:Stmt}{rest body body2:List Stmt}{w u:WS}
def iSeq(K:PySem.W.Frag)(tl:TE):TI:=fun σ H Rq=>tl σ H fun x H1=>∃a,x = .ref a/\(((∃xs,SqL K H1 a xs)/\Rq (Itl K a) H1)\/((∃xs,SqT K H1 a xs)/\Rq (Itt K a) H1))
theorem FM{l:Expr}{tl:TE}(hl:PE X l tl):PI X tg l (iSeq X.K tl):=by
 intro pins s σ H Rq I h;refine thn (hl pins s σ H _ I h) fun v s1 ⟨x,H1,I1,r1,q1⟩=>?_;obtain⟨a,e,q⟩:=q1;subst e;cases r1;rcases q with⟨⟨xs,hq⟩,q⟩|⟨⟨xs,hq⟩,q⟩
 .obtain⟨its,rv,p,hz⟩:=I1.list hq;refine wpAny_pyIter_list p.isList ?_;refine⟨s1.heap.objs.size,[s1.heap.objs.size],_,_,H1,rfl,I1.kept (t':=s1.toks) fun b o e=>Heap.get?_push_of_some _ e,ue a _,⟨_,Heap.get?_push_size _ rfl,rfl,rfl⟩,fun b hb=>?_,q⟩;have e:b=s1.heap.objs.size:=by simpa using hb
  subst e;exact I1.fpOk (Nat.le_refl _) (I1.hok.fresh (Nat.le_refl _))
 .obtain⟨its,rv,p,hz⟩:=I1.tuple hq;refine wpAny_pyIter_tuple (show s1.heap.IsTuple a its.toArray from p) ?_;refine⟨s1.heap.objs.size,[s1.heap.objs.size],_,_,H1,rfl,I1.kept (t':=s1.toks) fun b o e=>Heap.get?_push_of_some _ e,su a _,⟨_,Heap.get?_push_size _ rfl,rfl,rfl⟩,fun b hb=>?_,q⟩;have e:b=s1.heap.objs.size:=by simpa using hb
  subst e;exact I1.fpOk (Nat.le_refl _) (I1.hok.fresh (Nat.le_refl _))
def srcR(m:MSt)(K:Src->MSt->Prop):R->Prop
 | .imm (.list ds)=>K ⟨ds,none⟩ m
 | .imm (.tuple ds)=>K ⟨ds,none⟩ m
 | .obj k=>∃ds,m.os[k]?=some ds/\K ⟨ds,some k⟩ m
 |_=>False
def CI(we:WE):WI:=fun m K=>we m fun r m'=>srcR m' K r
theorem wks_list{a:Addr}:Wks K (Itl K a) ds fun H=>∃xs,SqL K H a xs/\DenAll K H ds xs where
 stop:=fun H ⟨xs,q,g⟩=>⟨xs,q,by rw[g.length];exact Nat.le_refl _⟩
 go:=fun i H hi ⟨xs,q,g⟩=>⟨xs,xs[i]'(by rw[<-g.length];exact hi),q,List.getElem?_eq_getElem _⟩
 yld:=fun i H x H' hi ⟨xs,q,g⟩ y=>by
  obtain⟨e,y⟩:=y;subst e;obtain⟨d,h1,h2⟩:=g.get2 (y xs q);exact⟨fun _ _ z=>z,d,h1,h2⟩
theorem AL{a:Addr}:Wks K (Itt K a) ds fun H=>∃xs,SqT K H a xs/\DenAll K H ds xs where
 stop:=fun H ⟨xs,q,g⟩=>⟨xs,q,by rw[g.length];exact Nat.le_refl _⟩
 go:=fun i H hi ⟨xs,q,g⟩=>⟨xs,xs[i]'(by rw[<-g.length];exact hi),q,List.getElem?_eq_getElem _⟩
 yld:=fun i H x H' hi ⟨xs,q,g⟩ y=>by
  obtain⟨e,y⟩:=y;subst e;obtain⟨d,h1,h2⟩:=g.get2 (y xs q);exact⟨fun _ _ z=>z,d,h1,h2⟩
theorem Wks.imp{C C':Hp->Prop}(h:Wks K J ds C)(k:∀H,C' H->C H):Wks K J ds C':=⟨fun H c=>h.stop H (k H c),fun i H hi c=>h.go i H hi (k H c),fun i H x H' hi c=>h.yld i H x H' hi (k H c)⟩
theorem DJ(he:ME X e we):MI X tg e (CI we):=(FM (tg:=tg) he).wk fun σ H Rq ⟨α,m,Kc,Rl,hw,fin⟩=>by
 refine⟨α,m,_,Rl,hw,fun r m' v H' k n Rl' rr F=>?_⟩
 cases r with
 |new _=>exact k.elim
 | «at» _ _=>exact k.elim
 |newT _=>exact k.elim
 |obj j =>
  obtain⟨ds,e1,k⟩:=k;obtain⟨p,ep,rfl⟩:=rr;obtain⟨xs,q,g⟩:=Rl'.own j _ ds ep e1;exact⟨p,rfl,.inl ⟨⟨xs,SqL.of q⟩,fin _ m' _ H' k n Rl' F ⟨p,ep,wks_list.imp fun H ⟨xs,q,g⟩=>⟨xs,SqL.of q,g⟩⟩⟩⟩
 | imm d =>
  cases d with
  |list ds =>
   have h:Den X.kx H' (.list ds) v:=rr;simp only[Den]at h;obtain⟨p,xs,rfl,f,g⟩:=h;refine⟨p,rfl,.inl ⟨⟨xs,f.sq⟩,fin _ m' _ H' k n Rl' F ⟨fun H=>∃xs,FzL X.kx H p xs/\DenAll X.kx H ds xs,wks_list.imp fun H ⟨xs,q,g⟩=>⟨xs,q.sq,g⟩,⟨xs,f,g⟩,fun H1 H2 ⟨xs,q,g⟩ pe=>⟨xs,q.mono pe,g.mono pe⟩⟩⟩⟩
  |tuple ds =>
   have h:Den X.kx H' (.tuple ds) v:=rr;simp only[Den]at h;obtain⟨p,xs,rfl,f,g⟩:=h;refine⟨p,rfl,.inr ⟨⟨xs,f⟩,fin _ m' _ H' k n Rl' F ⟨fun H=>∃xs,SqT X.kx H p xs/\DenAll X.kx H ds xs,AL,⟨xs,f,g⟩,fun H1 H2 ⟨xs,q,g⟩ pe=>⟨xs,q.mono pe,g.mono pe⟩⟩⟩⟩
  |none=>exact k.elim
  |bool _=>exact k.elim
  |int _=>exact k.elim
  |str _=>exact k.elim
  |dict _=>exact k.elim
def ga(lo:Int)(n:Nat):List PyData:=(List.range n).map fun(i:Nat)=>PyData.int (lo+(i:Int))
theorem aE(lo:Int)(n:Nat):(ga lo n).length=n:=by simp[ga]
theorem iz{lo:Int}(h:i<n):(ga lo n)[i]?=some (.int (lo+(i:Int))):=by simp[ga,h]
theorem vJ{lo:Int}:Wks K (Itr lo n) (ga lo n) fun _=>True where
 stop:=fun H _=>by rw[aE];exact Nat.le_refl _
 go:=fun i H hi _=>by rw[aE]at hi;exact hi
 yld:=fun i H x H' hi _ y=>by
  rw[aE]at hi;obtain⟨e,y⟩:=y;subst e y;exact⟨fun _ _ z=>z,_,iz hi,lH _⟩
def vj(ws:WA):WI:=fun m K=>ws m fun rs m'=>match rs with|[.imm (.int j)]=>-(2^62)≤j/\j<2^62/\K ⟨ga 0 j.toNat,none⟩ m'|_=>False
theorem aL{i:Int}(h:Den K H (.int i) v):v = .int i:=by simpa only[Den]using h
theorem uf(hg:Gl X "range")(hm:X.mg "range" = none)(ha:MA X [a] ws)(hs:starEach [a] X.env=[(false,eval a X.env)]:=by first|exact cv rfl|rfl):MI X tg (.Call (.Name "range" p) [a] [] pos) (vj ws):=(uC (tg:=tg) hg hm ha hs).wk fun σ H Rq ⟨α,m,Kc,Rl,hw,fin⟩=>by
 refine⟨α,m,_,Rl,hw,fun rs m' vs H' k n Rl' rr F=>?_⟩;obtain⟨j,er,k1,k2,kf⟩:∃j:Int,rs=[.imm (.int j)]/\-(2^62)≤j/\j<2^62/\Kc ⟨ga 0 j.toNat,none⟩ m':=by
  split at k
  .exact⟨_,rfl,k⟩
  .exact k.elim
 subst er
 cases rr with
 |cons h1 rr =>
  cases rr;have e:=aL (show Den X.kx H' (.int j) _ from h1);subst e;exact⟨j,rfl,k1,k2,fin _ m' _ H' kf n Rl' F ⟨fun _=>True,vJ,trivial,fun _ _ _ _=>trivial⟩⟩
def MSt.setN(m:MSt)(n:Nat):MSt:={m with np:=n}
def Src.np(s:Src)(m:MSt):Nat:=match s.own with|none=>m.np|some k=>max m.np (k+1)
def Src.ok(s:Src)(m:MSt):Prop:=match s.own with|none=>True|some k=>m.os[k]?=some s.ds
def gL(s:Src)(g:WG)(w:WS):WS:=fun D m1=>∃P:Nat->MSt->Prop,P 0 (m1.setN (s.np m1)) /\
 (∀(i:Nat) (d:PyData) (m:MSt),s.ds[i]?=some d->m.np=s.np m1->P i m->s.ok m/\g d m fun m2=>w {nx:=P (i+1),ct:=P (i+1),bk:=fun m'=>D.nx (m'.setN m1.np),rt:=fun r m'=>D.rt r (m'.setN m1.np)} m2) /\
 ∀m,m.np=s.np m1->P s.ds.length m->s.ok m/\D.nx (m.setN m1.np)
def wFor(wi:WI)(g:WG)(w:WS):WS:=fun D m=>wi m fun s m1=>gL s g w D m1
theorem Rel.setN{K:Kx}{m:MSt}(R:Rel K α m σ H)(h:n≤α.length)(he:K.eb.np≤n):Rel K α (m.setN n) σ H:=⟨R.nd,R.len,R.own,R.vlen,R.var,h,he,R.ebx⟩
theorem pk{K:Kx}{s:Src}{w:WS}(Rl:Rel K α m1 σ H)(hJ:o8 K α H s J)(h:gL s g w De m1)(k:EndsOk K m1.np α H De D)
  (hb:∀α' m' σ' H' De' D',α'.take (s.np m1)=α.take (s.np m1)->m'.np=s.np m1->Rel K α' m' σ' H'->w De' m'->EndsOk K m'.np α' H' De' D'->tb D' σ' H'):l3 J (tMG K g) tb D σ H:=by
 obtain⟨P,p0,turn,fin⟩:=h;have npk:s.np m1≤α.length:=by
  unfold Src.np;unfold o8 at hJ
  cases e:s.own with
  |none=>exact Rl.npl
  |some j =>
   rw[e]at hJ;obtain⟨a,ea,_⟩:=hJ;have:=(List.getElem?_eq_some_iff.mp ea).1;have:=Rl.npl;show max m1.np (j+1)≤α.length;omega
 have nple:m1.np≤s.np m1:=by
  unfold Src.np;split
  .exact Nat.le_refl _
  .exact Nat.le_max_left _ _
 obtain⟨C,wk,hC⟩:∃C:Hp->Prop,Wks K J s.ds C/\∀α' m' σ' H',Rel K α' m' σ' H'->Ext (s.np m1) α H α' H'->s.ok m'->C H':=by
  unfold o8 at hJ
  cases e:s.own with
  |none =>
   rw[e]at hJ;obtain⟨C,wk,c0,cm⟩:=hJ;exact⟨C,wk,fun α' m' σ' H' _ x _=>cm H H' c0 (Rl.pers x.frm)⟩
  | some j =>
   rw[e]at hJ;obtain⟨a,ea,wk⟩:=hJ;refine⟨_,wk,fun α' m' σ' H' R' x ok=>?_⟩;have hj:j<s.np m1:=by unfold Src.np;rw[e];show j<max _ _;omega
   have ea':α'[j]?=some (.L a):=by
    have:=congrArg (fun l=>l[j]?) x.pre;simp only[List.getElem?_take,if_pos hj]at this;rw[this];exact ea
   unfold Src.ok at ok;rw[e]at ok;exact R'.own j _ s.ds ea' ok
 have back:∀{α':Al}{m':MSt}{σ':St}{H':Hp},Rel K α' m' σ' H'->m'.np=s.np m1->Ext (s.np m1) α H α' H'->Rel K α' (m'.setN m1.np) σ' H':=fun R' n x=>R'.setN (by
  have:=R'.npl;rw[n]at this;omega) Rl.ebl
 refine⟨fun i n σ' H'=>n=s.ds.length-i/\i≤s.ds.length/\∃α' m',P i m'/\m'.np=s.np m1/\Rel K α' m' σ' H'/\Ext (s.np m1) α H α' H',⟨s.ds.length,by simp,Nat.zero_le _,α,_,p0,rfl,Rl.setN npk (Nat.le_trans Rl.ebl nple),.of Rl (Frm.refl _ _)⟩,?_⟩;rintro i n σ' H' ⟨rfl,hi,α',m',p,hn,R',x⟩
 by_cases hlt:i<s.ds.length
 .have hd:s.ds[i]?=some s.ds[i]:=List.getElem?_eq_getElem hlt;obtain⟨ok,hg⟩:=turn i _ m' hd hn p;have c:=hC α' m' σ' H' R' x ok;refine .inr ⟨wk.go i H' hlt c,fun σ2 H2=>∃α2 m2,P (i+1) m2/\m2.np=s.np m1/\Rel K α2 m2 σ2 H2/\Ext (s.np m1) α H α2 H2,fun σ2 H2 h2=>⟨s.ds.length-(i+1),by omega,rfl,hlt,h2⟩,fun v H2 y=>?_⟩;obtain⟨grow,d,e1,e2⟩:=wk.yld i H' v H2 hlt c y;rw[hd]at e1;cases e1;have F2:Frm α' H' H2:=fun b o z _=>grow b o z;have R2:Rel K α' m' σ' H2:=R'.at (R'.pers F2) (fun b hb=>by
   obtain⟨ys,z,_⟩:=R'.mem hb;rw[z];exact grow b _ z) F2
  have x2:Ext (s.np m1) α H α' H2:=x.trans (.of R2 F2);refine⟨α',m',_,_,R2,e2,hg,fun m3 σ3 q3 n3 R3=>hb α' m3 σ3 H2 _ _ x2.pre (n3.trans hn) R3 q3 ?_⟩;have n3':m3.np=s.np m1:=n3.trans hn;have x3:Ext m3.np α H α' H2:=by rw[n3'];exact x2
  refine⟨fun α4 m4 σ4 H4 q4 n4 R4 x4=>⟨α4,m4,q4,n4.trans n3',R4,?_⟩,fun r α4 m4 σ4 v4 H4 q4 n4 R4 rr x4=>?_,fun α4 m4 σ4 H4 q4 n4 R4 x4=>?_,fun α4 m4 σ4 H4 q4 n4 R4 x4=>⟨α4,m4,q4,n4.trans n3',R4,?_⟩⟩
  .rw[<-n3'];exact x3.trans x4
  .have x5:Ext (s.np m1) α H α4 H4:=by rw[<-n3'];exact x3.trans x4
   exact k.rt r α4 (m4.setN m1.np) σ4 v4 H4 q4 rfl (back R4 (n4.trans n3') x5) (rr.ext x3) (x5.less nple)
  .have x5:Ext (s.np m1) α H α4 H4:=by rw[<-n3'];exact x3.trans x4
   exact k.nx α4 (m4.setN m1.np) σ4 H4 q4 rfl (back R4 (n4.trans n3') x5) (x5.less nple)
  .rw[<-n3'];exact x3.trans x4
 .have e:i=s.ds.length:=by omega
  subst e;obtain⟨ok,q⟩:=fin m' hn p;exact .inl ⟨wk.stop H' (hC α' m' σ' H' R' x ok),k.nx α' (m'.setN m1.np) σ' H' q rfl (back R' hn x) (x.less nple)⟩
theorem Jj(hi:MI X tg iter wi)(hg:MG X tg g)(hb:MSs X body w)(hp:PassesOwn (model X.prog X.w) X.A X.env X.xe)(hc:X.calm=true:=by rfl)
  (hs:∀x,foldedSetIterable iter X.env x=pure x:=by intro _;rfl):MS X (.For tg iter body [] pos) (wFor wi g w):=(GL hp hc hi hg hb hs).wk fun D σ H ⟨α,m,De,Rl,hw,k⟩ =>
 ⟨α,m,_,Rl,hw,fun s m' J H' q n Rl' F hJ=>pk Rl' hJ q (by rw[n];exact k.ext (.of Rl' F)) fun α' m' σ' H' De' D' _ _ R' h' k'=>⟨α',m',De',R',h',k'⟩⟩
def wF(t:WT)(w:WS):WS:=fun D m0=>∃P:Nat->MSt->Prop,(∃n,P n m0)/\∀n m,m.np=m0.np->P n m->t m fun c m'=>if c=true then w {D with nx:=fun m2=>∃n',n'<n/\P n' m2,ct:=fun m2=>∃n',n'<n/\P n' m2,bk:=D.nx} m' else D.nx m'
theorem yP(ht:MT X t wt)(hb:MSs X body w)(hp:PassesOwn (model X.prog X.w) X.A X.env X.xe):MS X (.While t body [] pos) (wF wt w):=(yv hp ht hb).wk fun D σ H ⟨α,m,De,Rl,⟨P,⟨n0,p0⟩,turn⟩,k⟩=>by
 refine⟨fun n σ' H'=>∃α' m',P n m'/\m'.np=m.np/\Rel X.kx α' m' σ' H'/\Ext m.np α H α' H',⟨n0,α,m,p0,rfl,Rl,.of Rl (Frm.refl _ _)⟩,?_⟩;rintro n σ1 H1 ⟨α1,m1,p1,n1,R1,x1⟩;refine⟨α1,m1,_,R1,turn n m1 n1 p1,fun bb m2 H2 q n2 R2 F2=>?_⟩;have x2:Ext m.np α H α1 H2:=x1.trans (.of R2 F2);have n2':m2.np=m.np:=n2.trans n1
 cases bb with
 |true =>
  rw[if_pos rfl]at q;refine iteT ⟨fun σ3 H3=>∃n',n'<n/\∃α' m',P n' m'/\m'.np=m.np/\Rel X.kx α' m' σ3 H3/\Ext m.np α H α' H3,fun σ3 H3 ⟨n',hl,z⟩=>⟨n',hl,z⟩,α1,m2,_,R2,q,?_⟩;rw[n2'];exact⟨fun α' m' σ' H' ⟨n',hl,q⟩ nn R' y=>⟨n',hl,α',m',q,nn,R',x2.trans y⟩,fun r α' m' σ' v H' q nn R' rr y=>k.rt r α' m' σ' v H' q nn R' (rr.ext x2) (x2.trans y),fun α' m' σ' H' q nn R' y=>k.nx α' m' σ' H' q nn R' (x2.trans y),fun α' m' σ' H' ⟨n',hl,q⟩ nn R' y=>⟨n',hl,α',m',q,nn,R',x2.trans y⟩⟩
 |false =>
  rw[if_neg Bool.false_ne_true]at q;exact iteF (k.nx α1 m2 σ1 H2 q n2' R2 x2)
end
section
variable {K:Kx}{α:Al}{m:MSt}{σ:St}{H:Hp}
theorem Rel.setW(R:Rel K α m σ H)(ha:α[q]?=some ao)(pe:Pers H H')(F:∀b,b∉ao.ads->H' b=H b)(g:OwnAt K H' ao ds'):Rel K α {m with os:=m.os.set q ds' } σ H'/\Frm α H H':=by
 have Fα:Frm α H H':=fun b o e nb=>by rw[F b fun z=>nb (iZ ha z)];exact e
 have own':∀(k:Nat) (a:Ao) (es:List PyData),α[k]?=some a->(m.os.set q ds')[k]?=some es->OwnAt K H' a es:=fun k a es z1 z2'=>by
  by_cases c:q=k
  .subst c;rw[ha]at z1;cases z1;rw[List.getElem?_set_self (by rw[<-R.len];exact(List.getElem?_eq_some_iff.mp ha).1)]at z2';cases z2';exact g
  .rw[List.getElem?_set_ne c]at z2';exact(R.own k a es z1 z2').mono pe fun b hb=>F b fun z=>fJ R.nd ha z1 c z hb
 refine⟨⟨R.nd,by simp[R.len],own',R.vlen,fun i r h=>?_,R.npl,R.ebl,R.ebx.trans ⟨rfl,Fα,fun _ h=>.inl h,fun a ha=>?_⟩⟩,Fα⟩
 .obtain⟨v,ev,rv⟩:=R.var i r h;refine⟨v,ev,?_⟩
  cases r with
  |imm d=>exact Den.mono pe rv
  |obj k=>exact rv
  | «at» k p=>exact rv
  |new ds=>exact rv
  |newT t=>exact rv
 .obtain⟨k,ao,e1,hm⟩:=gN ha;have hk:k<(m.os.set q ds').length:=by rw[List.length_set,<-R.len];exact(List.getElem?_eq_some_iff.mp e1).1
  obtain⟨o,q,_⟩:=(own' k ao _ e1 (List.getElem?_eq_getElem hk)).mem hm;exact⟨o,q⟩
theorem Rel.setO{xs':List V}(R:Rel K α m σ H)(ha:α[q]?=some (.L l))(hl:H l=some (.lst xs))(g:DenAll K H ds' xs'):Rel K α {m with os:=m.os.set q ds' } σ (upd H l (.lst xs'))/\Frm α H (upd H l (.lst xs')):=by
 have pe:Pers H (upd H l (.lst xs')):=qW hl;exact R.setW ha pe (fun b hb=>aw fun e=>hb (List.mem_singleton.mpr e)) ⟨xs',aC,g.mono pe⟩
end
def sU(own:List Str)(ps:List Nat)(vs:List (Option R)):List (Option R):=own.map (fun _=>none)++ps.map fun i=>(vs[i]?).join
def jc(own:List Str)(ps:List Nat)(m:MSt):MSt:=⟨sU own ps m.vs,m.os++[[]],m.os.length+1⟩
def wIfT(tt:WT)(w:WS):WS:=fun D m=>tt m fun b m'=>if b=true then w D m' else D.nx m'
def sF(q:Nat)(we:WE):WS:=fun D m=>we m fun r m'=>cX (fun d=>∃ds,m'.os[q]?=some ds/\ds.length<sizeLine/\D.nx {m' with os:=m'.os.set q (ds++[d])}) r
def k6(wi:WI)(own:List Str)(ps:List Nat)(g:WG)(tt:WT)(we:WE):WE:=fun m K=>wi m fun s m1 =>
 gL s g (wIfT tt (sF m1.os.length we)) {nx:=fun m'=>K (.new (m'.os.getD m1.os.length [])) {m1 with os:=m'.os.take m1.os.length},rt:=fun _ _=>False} (jc own ps m1)
def qV(wi:WI)(own:List Str)(ps:List Nat)(g:WG)(tt:WT)(wi2:WI)(g2:WG)(tt2:WT)(we:WE):WE:=fun m K=>wi m fun s m1 =>
 gL s g (wIfT tt fun D m2=>wi2 m2 fun s2 m3=>gL s2 g2 (wIfT tt2 (sF m1.os.length we)) D m3) {nx:=fun m'=>K (.new (m'.os.getD m1.os.length [])) {m1 with os:=m'.os.take m1.os.length},rt:=fun _ _=>False} (jc own ps m1)
def pZ:WT:=fun m K=>K true m
section
variable {K:Kx}
theorem vX{m:MSt}(ha:α[q]?=some (.L l))(Rl:Rel K α m σ H)(h:sF q we De m)(k:EndsOk K m.np α H De D):oJ l (tM K we) D σ H:=by
 refine⟨α,m,_,Rl,h,fun r m' v H' kk n R' rr F=>?_⟩;obtain⟨d,er,hd,ds,e1,hz,kk⟩:=dU rr kk;obtain⟨xs,hx,g⟩:=R'.own q _ ds ha e1;obtain⟨R2,F2⟩:=R'.setO ha hx (g.append (DenAll.cons hd DenAll.nil));exact⟨xs,hx,by rw[<-g.length];exact hz,k.nx α _ σ _ kk n R2 (.of R2 (F.trans F2))⟩
theorem wf{m:MSt}(Rl:Rel K α m σ H)(h:wIfT tt w De m)(k:EndsOk K m.np α H De D)
  (hb:∀m' H',m'.np=m.np->Rel K α m' σ H'->w De m'->EndsOk K m'.np α H' De D->tb D σ H'):tIfT (tMT K tt) tb D σ H:=by
 refine⟨α,m,_,Rl,h,fun bb m' H' q n R' F=>?_⟩;have k':EndsOk K m'.np α H' De D:=by rw[n];exact k.ext (.of R' F)
 cases bb with
 |true=>rw[if_pos rfl]at q;exact iteT (hb m' H' n R' q k')
 |false=>rw[if_neg Bool.false_ne_true]at q;exact iteF (k'.nx α m' σ H' q rfl R' (.of R' (Frm.refl _ _)))
theorem xG{ps:List Nat}{s:Src}{m:MSt}{Kc:R->MSt->Prop}(Rl:Rel K α m σ H)(n1:m1.np=m.np)(Rl1:Rel K α m1 σ H1)(F1:Frm α H H1)(hJ:o8 K α H1 s J)(hl:H1 l=none)
  (h:gL s g w {nx:=fun m'=>Kc (.new (m'.os.getD m1.os.length [])) {m1 with os:=m'.os.take m1.os.length},rt:=fun _ _=>False} (jc own ps m1))
  (fin:∀r m' v H',Kc r m'->m'.np=m.np->Rel K α m' σ H'->RelR K α H H' r v->Frm α H H'->Q v H')
  (hb:∀α' m' σ' H' De' D',α'[m1.os.length]?=some (.L l)->m1.os.length<m'.np->Rel K α' m' σ' H'->w De' m'->EndsOk K m'.np α' H' De' D'->tb D' σ' H') :
  l3 J (tMG K g) tb {nx:=fun _ H'=>Q (.ref l) H',rt:=fun _ _=>False} (f8 own ps σ) (upd H1 l (.lst [])):=by
 have pα:l∉ads α:=Rl1.out hl;have pe:Pers H1 (upd H1 l (.lst [])):=bx (.inl hl);have hlen:α.length=m1.os.length:=Rl1.len;have at0:(α++[.L l])[m1.os.length]?=some (.L l):=by rw[List.getElem?_append_right (by omega),<-hlen];simp
 have Rl1':Rel K α m1 σ (upd H1 l (.lst [])):=Rl1.lay hl;obtain⟨Rm,extm⟩:=lG (ao:=.L l) (ds:=[]) Rl1' ⟨m1,σ,Rl1⟩ (cW hl) (by simp[Ao.ads]) (fun b hb=>by cases List.mem_singleton.mp hb;exact hl) ⟨[],aC,DenAll.nil⟩;have R0:Rel K (α++[.L l]) (jc own ps m1) (f8 own ps σ) (upd H1 l (.lst [])):=by
  refine⟨Rm.nd,by simp[jc,hlen],Rm.own,by simp[f8,jc,sU],fun i r z=>?_,by simp[jc,hlen],by have:=Rl1.ebl;have:=Rl1.npl;show K.eb.np≤m1.os.length+1;omega,Rm.ebx⟩;have z':(sU own ps m1.vs)[i]?=some (some r):=z;unfold sU at z'
  by_cases hi:i<own.length
  .rw[List.getElem?_append_left (by simpa using hi),List.getElem?_map]at z'
   cases q:own[i]? with
   |none=>rw[q]at z';cases z'
   |some y=>rw[q]at z';cases z'
  .rw[List.getElem?_append_right (by simpa using hi),List.length_map,List.getElem?_map]at z'
   cases q:ps[i-own.length]? with
   |none=>rw[q]at z';cases z'
   | some p =>
    rw[q]at z';have z2:(m1.vs[p]?).join=some r:=Option.some.inj z';have hv:m1.vs[p]?=some (some r):=by
     cases y:m1.vs[p]? with
     |none=>rw[y]at z2;cases z2
     |some y'=>rw[y]at z2;cases y' with
      |none=>cases z2
      |some y'=>cases z2;rfl
    obtain⟨v,ev,rv⟩:=Rm.var p r hv;refine⟨v,?_,rv⟩;unfold f8;rw[List.getElem?_append_right (by simpa using hi),List.length_map,List.getElem?_map,q];show some ((σ[p]?).join)=some (some v);rw[ev];rfl
 have hJ':o8 K (α++[.L l]) (upd H1 l (.lst [])) s J:=by
  unfold o8 at hJ⊢
  cases e:s.own with
  |none =>
   rw[e]at hJ;obtain⟨C,wk,c0,cm⟩:=hJ;exact⟨C,wk,cm _ _ c0 pe,cm⟩
  |some j =>
   rw[e]at hJ;obtain⟨a,ea,wk⟩:=hJ;exact⟨a,by rw[List.getElem?_append_left (List.getElem?_eq_some_iff.mp ea).1];exact ea,wk⟩
 have npq:m1.os.length<s.np (jc own ps m1):=by
  unfold Src.np;split
  .exact Nat.lt_succ_self _
  .exact Nat.lt_of_lt_of_le (Nat.lt_succ_self _) (Nat.le_max_left _ _)
 refine pk R0 hJ' h ⟨fun α' m' σ' H' q n R' x=>?_,fun _ _ _ _ _ _ z=>z.elim,fun _ _ _ _ z=>z.elim,fun _ _ _ _ z=>z.elim⟩ fun α' m' σ' H' De' D' hp hnp R' h' k'=>hb α' m' σ' H' De' D' ?_ (by rw[hnp];exact npq) R' h' k'
 .
  have n':m'.np=m1.os.length+1:=n;have x':Ext (m1.os.length+1) (α++[.L l]) (upd H1 l (.lst [])) α' H':=x;have F':Frm α H1 H':=fun b o e nb=>by
   have hbl:b≠l:=aZ e hl;refine x'.frm b o (by rw[aw hbl];exact e) fun z=>?_;rw[ii]at z;rcases List.mem_append.mp z with z|z
   .exact nb z
   .exact hbl (by simpa[ads,Ao.ads]using z)
  have pe':Pers H1 H':=Rl1.pers F';have same:∀k,k<m1.os.length+1->α'[k]?=(α++[.L l])[k]?:=fun k hk=>by
   have:=congrArg (fun z=>z[k]?) x'.pre;simp only[List.getElem?_take,if_pos hk]at this;exact this
  have hlen':m1.os.length+1≤m'.os.length:=by
   have:=R'.npl;rw[n',R'.len]at this;exact this
  have hq:m1.os.length<m'.os.length:=by omega
  have eq1:m'.os[m1.os.length]?=some (m'.os.getD m1.os.length []):=by
   rw[List.getD_eq_getElem?_getD,List.getElem?_eq_getElem hq];rfl
  obtain⟨xs,y1,y2⟩:=R'.own m1.os.length (.L l) _ (by rw[same _ (Nat.lt_succ_self _)];exact at0) eq1;have own':∀(k:Nat) (a:Ao) (es:List PyData),α[k]?=some a->(m'.os.take m1.os.length)[k]?=some es->OwnAt K H' a es:=fun k a es z1 z2'=>by
   rw[List.getElem?_take]at z2';have hk:k<m1.os.length:=by rw[<-hlen];exact(List.getElem?_eq_some_iff.mp z1).1
   rw[if_pos hk]at z2';exact R'.own k a es (by rw[same k (by omega),List.getElem?_append_left (by omega)];exact z1) z2'
  have tl:(m'.os.take m1.os.length).length=α.length:=by rw[List.length_take];omega
  have old':Ext K.eb.np α H1 α H':=⟨rfl,F',fun _ h=>.inl h,fun a ha=>by
   obtain⟨k,ao,e1,hm⟩:=gN ha;have hk:k<(m'.os.take m1.os.length).length:=by rw[tl];exact(List.getElem?_eq_some_iff.mp e1).1
   obtain⟨o,q,_⟩:=(own' k ao _ e1 (List.getElem?_eq_getElem hk)).mem hm;exact⟨o,q⟩⟩
  refine fin _ _ (.ref l) H' q n1 ⟨Rl1.nd,tl.symm,own',Rl1.vlen,fun i r z=>?_,Rl1.npl,Rl1.ebl,Rl1.ebx.trans old'⟩ ?_ (F1.trans F')
  .obtain⟨v,ev,rv⟩:=Rl1.var i r z;refine⟨v,ev,?_⟩
   cases r with
   |imm d=>exact Den.mono pe' rv
   |obj k=>exact rv
   | «at» k p=>exact rv
   |new ds=>exact rv
   |newT t=>exact rv
  .refine⟨l,xs,rfl,?_,y1,y2⟩
   cases z:H l with
   |none=>rfl
   |some o =>
    have:=F1 l o z pα;rw[hl]at this;cases this
 .have:=congrArg (fun z=>z[m1.os.length]?) hp;simp only[List.getElem?_take,if_pos npq]at this;rw[this];exact at0
end
section
variable {X:Cx}{scope sc:Scope}{own fr:List Str}{ps:List Nat}{elt tg iter tg2 iter2:Expr}{ifs ifs2:List Expr}{pos spos py:Pos}{wi wi2:WI}{g g2:WG}{tt tt2:WT}{we:WE}
theorem rG(h:tM X.kx (k6 wi own ps g tt we) σ H Q):u4 (tMI X.kx wi) own ps (tl1 (tMG X.kx g) (tMT X.kx tt) (tM X.kx we)) σ H Q:=by
 obtain⟨α,m,Kc,Rl,hw,fin⟩:=h;refine⟨α,m,_,Rl,hw,fun s m1 J H1 k n1 Rl1 F1 hJ l hl=>?_⟩;exact xG Rl n1 Rl1 F1 hJ hl k fin fun α' m' σ' H' De' D' ha hnp R' h' k'=>wf R' h' k' fun m2 H2 n2 R2 h2 k2=>vX ha R2 h2 k2
theorem yI(h:tM X.kx (qV wi own ps g tt wi2 g2 tt2 we) σ H Q):u4 (tMI X.kx wi) own ps (tl2 (tMG X.kx g) (tMT X.kx tt) (tMI X.kx wi2) (tMG X.kx g2) (tMT X.kx tt2) (tM X.kx we)) σ H Q:=by
 obtain⟨α,m,Kc,Rl,hw,fin⟩:=h;refine⟨α,m,_,Rl,hw,fun s m1 J H1 k n1 Rl1 F1 hJ l hl=>?_⟩;refine xG Rl n1 Rl1 F1 hJ hl k fin fun α' m' σ' H' De' D' ha hnp R' h' k'=>wf R' h' k' fun m2 H2 n2 R2 h2 k2=>?_;refine⟨α',m2,_,R2,h2,fun s2 m3 J2 H3 q3 n3 R3 F3 hJ2=>?_⟩;have hq:m1.os.length<s2.np m3:=by
  have:m1.os.length<m3.np:=by rw[n3,n2];exact hnp
  unfold Src.np;split
  .exact this
  .exact Nat.lt_of_lt_of_le this (Nat.le_max_left _ _)
 refine pk R3 hJ2 q3 (by rw[n3];exact k2.ext (.of R3 F3)) fun α4 m4 σ4 H4 De4 D4 hp4 hn4 R4 h4 k4=>wf R4 h4 k4 fun m5 H5 n5 R5 h5 k5=>vX ?_ R5 h5 k5;have:=congrArg (fun z=>z[m1.os.length]?) hp4;simp only[List.getElem?_take,if_pos hq]at this;rw[this];exact ha
theorem y9(S:bT own fr scope sc)(hi:MI X tg iter wi)(hg:∀cl s H C ex,MG (aP X scope cl (own++fr) s H C ex) tg g)(ht:∀cl s H C ex,PTs (aP X scope cl (own++fr) s H C ex) ifs (tMT X.kx tt))
  (he:∀cl s H C ex,ME (aP X scope cl (own++fr) s H C ex) elt we) (hsc:X.env.scope=sc:=by rfl) (hps:ps.map (fun i=>X.N[i]?)=fr.map some:=by rfl) (hc:X.calm=true:=by rfl) (hs:∀x,foldedSetIterable iter X.env x=pure x:=by intro _;rfl) :
  ME X (.ListComp elt [⟨tg,iter,ifs,0⟩] scope pos) (k6 wi own ps g tt we):=(y3 S hi hg ht he hsc hps hc hs).wk fun _ _ _ h=>rG h
theorem AQ:PTs X [] (tMT X.kx pZ):=fun pins s σ H Q I ⟨α,m,Kc,Rl,hw,fin⟩=>Db pins s σ H Q I (fin true m H hw rfl Rl (Frm.refl _ _))
theorem CP{t:WT}(h:MT X c t):PTs X [c] (tMT X.kx t):=BZ h
theorem xN(S:bT own fr scope sc)(hN:X.N.Nodup)(hy:X.N[i]?=some y)(hlc:X.env.scope.names.lookup y=some .local)(hi:MI X tg iter wi)(hg:∀cl s H C ex,MG (aP X scope cl (own++fr) s H C ex) tg g)(ht:∀cl s H C ex,PTs (aP X scope cl (own++fr) s H C ex) ifs (tMT X.kx tt))
  (he:∀cl s H C ex,ME (aP X scope cl (own++fr) s H C ex) elt we) (hsw:swapsWith (.ListComp elt [⟨tg,iter,ifs,0⟩] scope pos) (some (.Name y py)) spos.line X.env=pure true:=by rfl)
  (hsc:X.env.scope=sc:=by rfl) (hps:ps.map (fun i=>X.N[i]?)=fr.map some:=by rfl) (hc:X.calm=true:=by rfl) (hs:∀x,foldedSetIterable iter X.env x=pure x:=by intro _;rfl) :
  MS X (.Assign [.Name y py] (.ListComp elt [⟨tg,iter,ifs,0⟩] scope pos) spos) (wSet i (k6 wi own ps g tt we)):=(za S hN hy hlc hi hg ht he hsw hsc hps hc hs).wk fun D σ H ⟨α,m,De,Rl,hw,k⟩ =>
 rG ⟨α,m,_,Rl,hw,fun r m' v H' q n Rl' rr F=>oU (Q:=D.nx) Rl' n F rr q k.nx ⟨m,σ,Rl⟩⟩
theorem yF(S:bT own fr scope sc)(hN:X.N.Nodup)(hy:X.N[i]?=some y)(hlc:X.env.scope.names.lookup y=some .local)(hi:MI X tg iter wi)(hg:∀cl s H C ex,MG (aP X scope cl (own++fr) s H C ex) tg g)(ht:∀cl s H C ex,PTs (aP X scope cl (own++fr) s H C ex) ifs (tMT X.kx tt))
  (hi2:∀cl s H C ex,MI (aP X scope cl (own++fr) s H C ex) tg2 iter2 wi2) (hg2:∀cl s H C ex,MG (aP X scope cl (own++fr) s H C ex) tg2 g2) (ht2:∀cl s H C ex,PTs (aP X scope cl (own++fr) s H C ex) ifs2 (tMT X.kx tt2))
  (he:∀cl s H C ex,ME (aP X scope cl (own++fr) s H C ex) elt we) (hsw:swapsWith (.ListComp elt [⟨tg,iter,ifs,0⟩,⟨tg2,iter2,ifs2,0⟩] scope pos) (some (.Name y py)) spos.line X.env=pure true:=by rfl)
  (hsc:X.env.scope=sc:=by rfl) (hps:ps.map (fun i=>X.N[i]?)=fr.map some:=by rfl) (hc:X.calm=true:=by rfl) (hs:∀x,foldedSetIterable iter X.env x=pure x:=by intro _;rfl)
  (hs2:∀cl C x,foldedSetIterable iter2 (compEnvC scope cl C X.env) x=pure x:=by intro _ _ _;rfl) :
  MS X (.Assign [.Name y py] (.ListComp elt [⟨tg,iter,ifs,0⟩,⟨tg2,iter2,ifs2,0⟩] scope pos) spos) (wSet i (qV wi own ps g tt wi2 g2 tt2 we)):=(xT S hN hy hlc hi hg ht hi2 hg2 ht2 he hsw hsc hps hc hs hs2).wk fun D σ H ⟨α,m,De,Rl,hw,k⟩ =>
 yI ⟨α,m,_,Rl,hw,fun r m' v H' q n Rl' rr F=>oU (Q:=D.nx) Rl' n F rr q k.nx ⟨m,σ,Rl⟩⟩
end
theorem bq{i:Str}(h:Den K H (.str i) v):v = .str i:=by simpa only[Den]using h
theorem jX{i:Bool}(h:Den K H (.bool i) v):v = .bl i:=by simpa only[Den]using h
theorem kH(h:Den K H .none v):v = .non:=by simpa only[Den]using h
theorem di(i:Int):RelR K α Hb H (.imm (.int i)) (.int i):=lH (K:=K) (H:=H) i
theorem lQ(i:Bool):RelR K α Hb H (.imm (.bool i)) (.bl i):=Gz (K:=K) (H:=H) i
theorem xn(i:Str):RelR K α Hb H (.imm (.str i)) (.str i):=u8 (K:=K) (H:=H) i
theorem w6:RelR K α Hb H (.imm .none) .non:=CY (K:=K) (H:=H)
theorem ko{d:PyData}(h:Den K H d v):RelR K α Hb H (.imm d) v:=h
theorem bA(h:Den K H (.tuple ds) v):∃a xs,v = .ref a/\SqT K H a xs/\DenAll K H ds xs:=by simpa only[Den]using h
theorem dg(f:SqT K H a xs)(g:DenAll K H ds xs):Den K H (.tuple ds) (.ref a):=by simp only[Den];exact⟨a,xs,rfl,f,g⟩
section
variable {X:Cx}
def oAdd:WO
 | .imm (.int i),.imm (.int j),_,K=>K (.imm (.int (i+j)))
 | .imm (.str x),.imm (.str y),_,K=>x.length+y.length≤sizeLine/\K (.imm (.str (x++y)))
 | .imm (.tuple a),.imm (.tuple b),_,K=>a.length+b.length≤sizeLine/\K (.imm (.tuple (a++b)))
 |r1,r2,m,K=>∃xs ys,lsOf m r1=some xs/\lsOf m r2=some ys/\xs.length+ys.length≤sizeLine/\K (.new (xs++ys))
theorem aI:OpR X (binaryOp .Add) (rM X.kx oAdd):=by
 rintro pins s σ' H x y v u Q I rx ry ⟨α,m,σ,H0,H1,r1,r2,Kc,Rl,h1,h2,ho,fin⟩;unfold oAdd at ho
 split at ho
 .rename_i _ _ i j;have e1:=aL (show Den X.kx H (.int i) x from h1);have e2:=aL (show Den X.kx H (.int j) y from h2);subst e1 e2;exact Ib pins s σ' H _ _ v u Q I rx ry ⟨i,j,rfl,rfl,fin _ _ H ho Rl (di _) (Frm.refl _ _)⟩
 .rename_i _ _ i j;have e1:=bq (show Den X.kx H (.str i) x from h1);have e2:=bq (show Den X.kx H (.str j) y from h2);subst e1 e2;exact sR pins s σ' H _ _ v u Q I rx ry ⟨i,j,rfl,rfl,ho.1,fin _ _ H ho.2 Rl (xn _) (Frm.refl _ _)⟩
 .rename_i _ _ ds es;obtain⟨a,xs,rfl,f1,g1⟩:=bA (show Den X.kx H (.tuple ds) x from h1);obtain⟨b,ys,rfl,f2,g2⟩:=bA (show Den X.kx H (.tuple es) y from h2);obtain⟨hz,ho⟩:=ho
  by_cases hx:xs=[]
  .subst hx
   cases rx;cases ry
   obtain⟨its,rv1,p1,_⟩:=I.tuple f1;obtain⟨its2,rv2,p2,_⟩:=I.tuple f2;cases rv1;obtain⟨⟨cls,dd,data,sl⟩,ho1,hc,n,hd⟩:=id p1;obtain⟨⟨cls2,dd2,data2,sl2⟩,ho2,hc2,n2,hd2⟩:=id p2;simp only at hc hd hc2 hd2;subst hc hd hc2 hd2;have e0:ds=[]:=by cases ds with|nil=>rfl|cons _ _=>have:=g1.length;simp at this
   subst e0;exact concat_meets ⟨_,ho1,rfl⟩ ⟨_,ho2,rfl⟩ noFill_tuple_add seq_tuple_add PySem.F.slot_tuple_add PySem.F.entry_tuple_add (PySem.F.args_tuple_add_2 _ _)
    (tuple_addW0 a b _ its2.toArray n n2 dd dd2 sl sl2 (by simp)) ⟨ho1,ho2,⟨.ref b,H,I,rfl,fin _ _ H ho Rl (show Den X.kx H (.tuple ([]++es)) (.ref b)from h2) (Frm.refl _ _)⟩⟩
  .refine C5 pins s σ' H _ _ v u Q I rx ry ⟨a,b,xs,ys,rfl,rfl,f1,f2,hx,by rw[<-g1.length,<-g2.length];exact hz,fun e=>?_,fun e p hp=>?_⟩
   .subst e;have e0:es=[]:=by cases es with|nil=>rfl|cons _ _=>have:=g2.length;simp at this
    subst e0;exact fin _ _ H (by rw[List.append_nil]at ho;exact ho) Rl (ko h1) (Frm.refl _ _)
   .exact fin _ _ _ ho (Rl.lay hp) (ko<|dg (SqT.of aC) ((g1.append g2).mono (bx (.inl hp)))) (cW hp)
 .obtain⟨ds,es,e1,e2,hz,ho⟩:=ho;obtain⟨a,xs,rfl,f1,g1⟩:=h1.list Rl e1;obtain⟨b,ys,rfl,f2,g2⟩:=h2.list Rl e2
  cases rx;cases ry
  obtain⟨its,rv1,⟨⟨cls,dd,data,sl⟩,n,ho1,hc,hdd,hd⟩,_⟩:=I.list f1;obtain⟨its2,rv2,⟨⟨cls2,dd2,data2,sl2⟩,n2,ho2,hc2,hdd2,hd2⟩,_⟩:=I.list f2;simp only at hc hd hc2 hd2;subst hc hd hc2 hd2;have hzz:xs.length+ys.length≤sizeLine:=by rw[<-g1.length,<-g2.length];exact hz
  refine concat_meets ⟨_,ho1,rfl⟩ ⟨_,ho2,rfl⟩ noFill_list_add seq_list_add PySem.F.slot_list_add PySem.F.entry_list_add (PySem.F.args_list_add_2 _ _) (list_addW a b its.toArray its2.toArray n n2 dd dd2 sl sl2 (by have:=rv1.length;have:=rv2.length;simp only[List.size_toArray];omega)) ⟨ho1,ho2,?_⟩;have ea:its.toArray++its2.toArray=(its++its2).toArray:=by simp
  rw[ea];have hp:H s.heap.objs.size=none:=I.fresh;exact⟨.ref _,_,I.lnew (t':=s.toks) (rv1.append rv2) (by rw[List.length_append];omega),rfl,fin _ _ _ ho (Rl.lay hp) ⟨_,xs++ys,rfl,hp,aC,(g1.append g2).mono (bx (.inl hp))⟩ (cW hp)⟩
def oII(C:Int->Int->Prop)(g:Int->Int->Int):WO
 | .imm (.int i),.imm (.int j),_,K=>C i j/\K (.imm (.int (g i j)))
 |_,_,_,_=>False
def oIB(g:Int->Int->Bool):WO
 | .imm (.int i),.imm (.int j),_,K=>K (.imm (.bool (g i j)))
 |_,_,_,_=>False
theorem m7{f:Value->Value->Sem Value}{C:Int->Int->Prop}{g:Int->Int->Int}(h:OpR X f (rI C fun i j=>.int (g i j))):OpR X f (rM X.kx (oII C g)):=by
 rintro pins s σ' H x y v u Q I rx ry ⟨α,m,σ,H0,H1,r1,r2,Kc,Rl,h1,h2,ho,fin⟩;unfold oII at ho
 split at ho
 .rename_i _ _ i j;have e1:=aL (show Den X.kx H (.int i) x from h1);have e2:=aL (show Den X.kx H (.int j) y from h2);subst e1 e2;exact h pins s σ' H _ _ v u Q I rx ry ⟨i,j,rfl,rfl,ho.1,fin _ _ H ho.2 Rl (di _) (Frm.refl _ _)⟩
 .exact ho.elim
theorem uh{f:Value->Value->Sem Value}{g:Int->Int->Bool}(h:OpR X f (rI0 fun i j=>.bl (g i j))):OpR X f (rM X.kx (oIB g)):=by
 rintro pins s σ' H x y v u Q I rx ry ⟨α,m,σ,H0,H1,r1,r2,Kc,Rl,h1,h2,ho,fin⟩;unfold oIB at ho
 split at ho
 .rename_i _ _ i j;have e1:=aL (show Den X.kx H (.int i) x from h1);have e2:=aL (show Den X.kx H (.int j) y from h2);subst e1 e2;exact h pins s σ' H _ _ v u Q I rx ry ⟨i,j,rfl,rfl,fin _ _ H ho Rl (lQ _) (Frm.refl _ _)⟩
 .exact ho.elim
def oSub:WO:=oII (fun _ _=>True) fun i j=>i-j
theorem pf:OpR X (binaryOp .Sub) (rM X.kx oSub):=m7 (opI fun _ _ _ _ _ _ _ _ q=>sub_int q)
def oMul:WO:=oII IntMulOk fun i j=>i*j
theorem BR:OpR X (binaryOp .Mult) (rM X.kx oMul):=m7 (opI fun _ _ _ _ _ _ _ hc q=>mul_int q hc)
def CFd(_ j:Int):Prop:=0<j/\j.natAbs.log2<9000
def DT:WO:=oII CFd fun i j=>i/j
theorem c5:OpR X (binaryOp .FloorDiv) (rM X.kx DT):=m7 (opI fun i j _ _ _ _ _ hc q=>floordiv_int (by have:=hc.1;omega) (by rw[Int.fdiv_eq_ediv_of_nonneg _ (by have:=hc.1;omega)];exact q) (.inl (PyProof.noPylong_of_log2 hc.2)))
def oMod:WO:=oII (fun _ j=>0<j) fun i j=>i%j
theorem cV:OpR X (binaryOp .Mod) (rM X.kx oMod):=m7 FW
def oPow:WO:=oII CPow fun i j=>i^j.toNat
theorem DB:OpR X (binaryOp .Pow) (rM X.kx oPow):=m7 Fe
def oLt:WO:=oIB fun i j=>decide (i<j)
def oGt:WO:=oIB fun i j=>decide (j<i)
def oGe:WO:=oIB fun i j=>decide (j≤i)
theorem i7:OpR X (compareOp .Lt) (rM X.kx oLt):=uh JR
theorem ic:OpR X (compareOp .Gt) (rM X.kx oGt):=uh JQ
theorem Je:OpR X (compareOp .GtE) (rM X.kx oGe):=uh JO
def eqD(f:Bool->Bool):WO:=fun r1 r2 m K=>match asD m r1,asD m r2 with
 |some d1,some d2=>SeqAt.shaped d1=true/\SeqAt.shaped d2=true/\K (.imm (.bool (f (PyData.eqv d1 d2))))
 |_,_=>False
def eqS(f:Bool->Bool):WO:=fun r1 r2 m K=>∃x y:Str,r1 = .imm (.str x)/\r2 = .imm (.str y)/\K (.imm (.bool (f (decide (x=y)))))
def eqSs(f:Bool->Bool):WO:=fun r1 r2 m K=>∃xs ys:List Str,lsOf m r1=some (xs.map .str)/\lsOf m r2=some (ys.map .str)/\xs.length=ys.length/\K (.imm (.bool (f (decide (xs=ys)))))
def oEq:WO:=fun r1 r2 m K=>eqD id r1 r2 m K\/eqS id r1 r2 m K\/eqSs id r1 r2 m K
def oNe:WO:=fun r1 r2 m K=>eqD (!·) r1 r2 m K\/eqS (!·) r1 r2 m K
theorem gn{K:Kd}{H:Hp}:∀{ns:List Str}{xs:List V},DenAll K H (ns.map .str) xs->xs=ns.map V.str
 |[],_,h=>by simpa only[List.map_nil,DenAll]using h
 |n::ns,_,h=>by
  simp only[List.map_cons,DenAll]at h;obtain⟨v,vs,rfl,h1,h2⟩:=h;have e:=bq (K:=K) (H:=H) h1;rw[e,gn h2];rfl
theorem mt:∀{ns:List Str}{us:List Value}{j:Nat}{u:Value},Vals (ns.map V.str) us->us[j]?=some u->∃x t,ns[j]?=some x/\u = .str x t
 |[],_,_,_,.nil,e=>by simp at e
 |n::ns,_,0,_,.cons r _,e=>by
  simp at e;subst e;obtain⟨t,h⟩:=r;exact⟨n,t,rfl,h⟩
 |n::ns,_,j+1,u,.cons _ t,e=>by
  obtain⟨x,tk,h1,h2⟩:=mt (j:=j) (u:=u) t (by simpa using e);exact⟨x,tk,by simpa using h1,h2⟩
theorem o4(xs ys:List Str)(h:xs.length=ys.length):(List.range xs.length).all (fun j=>decide (xs.getD j Str.empty=ys.getD j Str.empty))=decide (xs=ys):=by
 rw[Bool.eq_iff_iff,List.all_eq_true,decide_eq_true_eq];constructor
 .intro q;apply List.ext_getElem h;intro i h1 h2;have:=q i (by simpa using h1);rw[decide_eq_true_eq,List.getD_eq_getElem?_getD,List.getD_eq_getElem?_getD,List.getElem?_eq_getElem h1,List.getElem?_eq_getElem h2]at this;exact this
 .rintro rfl j _;exact decide_eq_true rfl
theorem Cz{s:Shared}{x y:V}{v u:Value}{m:MSt}{r1 r2:R}{xs ys:List Str}(I:Inv X pins σ' H s)(Rl:Rel X.kx α m σ H)(h1:RelR X.kx α H0 H r1 x)(h2:RelR X.kx α H1 H r2 y)(rx:RelV x v)(ry:RelV y u)
  (e1:lsOf m r1=some (xs.map .str)) (e2:lsOf m r2=some (ys.map .str)) (hl:xs.length=ys.length) (hu:X.A.units+64<cLine):∃l b its its2,v = .ref l/\u = .ref b/\s.heap.IsList l its/\s.heap.IsList b its2/\its.size=xs.length/\its2.size=xs.length /\
   ∀j (z1:j<its.size) (z2:j<its2.size),SeqAt.EqAt X.A.in1 s its[j] its2[j] (decide (xs.getD j Str.empty=ys.getD j Str.empty)):=by
 obtain⟨a,zs,rfl,f1,g1⟩:=h1.list Rl e1;obtain⟨b,ws,rfl,f2,g2⟩:=h2.list Rl e2;have q1:=gn g1;have q2:=gn g2;subst q1 q2
 cases rx;cases ry
 obtain⟨its,rv1,p1,_⟩:=I.list f1;obtain⟨its2,rv2,p2,_⟩:=I.list f2;have l1:=rv1.length;have l2:=rv2.length;rw[List.length_map]at l1 l2;refine⟨a,b,its.toArray,its2.toArray,rfl,rfl,p1.isList,p2.isList,by simp[l1],by simp[<-l2,hl],fun j z1 z2=>?_⟩;obtain⟨x,t,h3,h4⟩:=mt rv1 (j:=j) (u:=its.toArray[j]) (by rw[List.getElem_toArray,List.getElem?_eq_getElem]);obtain⟨y,t',h5,h6⟩:=mt rv2 (j:=j) (u:=its2.toArray[j]) (by rw[List.getElem_toArray,List.getElem?_eq_getElem]);rw[h4,h6,List.getD_eq_getElem?_getD,List.getD_eq_getElem?_getD,h3,h5];have:=SeqAt.EqAt.str_str (A:=X.A.in1) (s:=s) x t y t';have e:(x==y)=decide (x=y):=by rw[Bool.beq_eq_decide_eq]
 rw[e]at this;exact this
theorem ba(hu:X.A.units+64<cLine):OpR X (compareOp .Eq) (rM X.kx oEq):=by
 rintro pins s σ' H x y v u Q I rx ry ⟨α,m,σ,H0,H1,r1,r2,Kc,Rl,h1,h2,ho,fin⟩;rcases ho with ho|⟨z,t,rfl,rfl,ho⟩|⟨xs,ys,e1,e2,hl,ho⟩
 .unfold eqD at ho
  split at ho
  .rename_i d1 d2 e1 e2;obtain⟨as,q1⟩:=h1.reads I Rl rx e1 (PyData.hasDict_of_canLay _ (SeqAt.canLay_of_shaped ho.1));obtain⟨bs,q2⟩:=h2.reads I Rl ry e2 (PyData.hasDict_of_canLay _ (SeqAt.canLay_of_shaped ho.2.1));exact eq_dataH q1 q2 ho.1 ho.2.1 hu ⟨.bl _,H,I,rfl,fin _ _ H ho.2.2 Rl (lQ _) (Frm.refl _ _)⟩
  .exact ho.elim
 .have e1:=bq (show Den X.kx H (.str z) x from h1);have e2:=bq (show Den X.kx H (.str t) y from h2);subst e1 e2;refine Ls pins s σ' H _ _ v u Q I rx ry ⟨rfl,?_⟩;rw[lP,Bool.beq_eq_decide_eq];exact fin _ _ H ho Rl (lQ _) (Frm.refl _ _)
 .obtain⟨l,b,its,its2,rfl,rfl,p1,p2,s1,s2,he⟩:=Cz I Rl h1 h2 rx ry e1 e2 hl hu;refine SeqAt.eq_listAt p1 p2 (s1.trans s2.symm) (by omega) he ?_;rw[s1,o4 xs ys hl];exact⟨.bl _,H,I,rfl,fin _ _ H ho Rl (lQ _) (Frm.refl _ _)⟩
theorem ou(hu:X.A.units+64<cLine):OpR X (compareOp .NotEq) (rM X.kx oNe):=by
 rintro pins s σ' H x y v u Q I rx ry ⟨α,m,σ,H0,H1,r1,r2,Kc,Rl,h1,h2,ho,fin⟩;rcases ho with ho|⟨z,t,rfl,rfl,ho⟩
 .unfold eqD at ho
  split at ho
  .rename_i d1 d2 e1 e2;obtain⟨as,q1⟩:=h1.reads I Rl rx e1 (PyData.hasDict_of_canLay _ (SeqAt.canLay_of_shaped ho.1));obtain⟨bs,q2⟩:=h2.reads I Rl ry e2 (PyData.hasDict_of_canLay _ (SeqAt.canLay_of_shaped ho.2.1));exact ne_dataH q1 q2 ho.1 ho.2.1 hu ⟨.bl _,H,I,rfl,fin _ _ H ho.2.2 Rl (lQ _) (Frm.refl _ _)⟩
  .exact ho.elim
 .have e1:=bq (show Den X.kx H (.str z) x from h1);have e2:=bq (show Den X.kx H (.str t) y from h2);subst e1 e2;refine Jx pins s σ' H _ _ v u Q I rx ry ⟨rfl,?_⟩;rw[lP,Bool.beq_eq_decide_eq];exact fin _ _ H ho Rl (lQ _) (Frm.refl _ _)
def wn:R->Bool
 | .imm .none=>true
 |_=>false
def xw:WO:=fun r1 r2 _ K=>r2 = .imm .none/\K (.imm (.bool (!wn r1)))
theorem sx(h:RelR K α Hb H r v):decide (v = .non)=wn r:=by
 cases r with
 |obj k=>obtain⟨a,_,rfl⟩:=h;rfl
 |new ds=>obtain⟨a,_,rfl,_⟩:=h;rfl
 | «at» k p=>obtain⟨τ,a,_,_,rfl⟩:=h;rfl
 |newT t=>obtain⟨τ,a,rfl,_⟩:=h;rfl
 |imm d =>
  cases d with
  |none=>have e:=kH (show Den K H .none v from h);subst e;rfl
  |bool b=>have e:=jX (show Den K H (.bool b) v from h);subst e;rfl
  |int b=>have e:=aL (show Den K H (.int b) v from h);subst e;rfl
  |str b=>have e:=bq (show Den K H (.str b) v from h);subst e;rfl
  |list ds=>have h':Den K H (.list ds) v:=h;simp only[Den]at h';obtain⟨a,_,rfl,_⟩:=h';rfl
  |tuple ds=>obtain⟨a,_,rfl,_⟩:=bA (show Den K H (.tuple ds) v from h);rfl
  |dict es=>have h':Den K H (.dict es) v:=h;simp only[Den]at h';obtain⟨a,rfl,_⟩:=h';rfl
theorem sE:OpR X (compareOp .IsNot) (rM X.kx xw):=by
 rintro pins s σ' H x y v u Q I rx ry ⟨α,m,σ,H0,H1,r1,r2,Kc,Rl,h1,h2,ho,fin⟩;obtain⟨e,ho⟩:=ho;subst e;have ey:=kH (show Den X.kx H .none y from h2);exact BQ pins s σ' H _ _ v u Q I rx ry ⟨ey,by rw[sx h1];exact fin _ _ H ho Rl (lQ _) (Frm.refl _ _)⟩
def uNeg:WU
 | .imm (.int i),_,K=>K (.imm (.int (-i)))
 |_,_,_=>False
theorem gm:UnR X (unaryOp .USub) (uM X.kx uNeg):=by
 rintro pins s σ' H x v Q I rx ⟨α,m,σ,H0,r1,Kc,Rl,h1,ho,fin⟩;unfold uNeg at ho
 split at ho
 .rename_i _ i;have e1:=aL (show Den X.kx H (.int i) x from h1);subst e1;exact Fh pins s σ' H _ v Q I rx ⟨i,rfl,fin _ _ H ho Rl (di _) (Frm.refl _ _)⟩
 .exact ho.elim
def xI(m:MSt)(K:R->Prop):R->R->Prop
 | .imm (.tuple ds),.imm (.int i)=>∃d,atI ds i=some d/\K (.imm d)
 | .imm (.str x),.imm (.int i)=>∃c,x.length≤sizeLine/\atI x.cps.toList i=some c/\K (.imm (.str ⟨#[c]⟩))
 |r,.imm (.int i)=>∃ds d,lsOf m r=some ds/\atI ds i=some d/\K (.imm d)
 |_,_=>False
def lq:WO:=fun r1 r2 m K=>xI m K r1 r2
theorem uL{K:Kx}{i:Int}{d:PyData}(g:DenAll K H ds xs)(e:atI ds i=some d):∃v,atI xs i=some v/\Den K H d v:=by
 unfold atI at e⊢;rw[<-g.length]
 cases q:ixN ds.length i with
 |none=>rw[q]at e;cases e
 |some j =>
  rw[q]at e;obtain⟨v,h1,h2⟩:=g.get (show ds[j]?=some d from e);exact⟨v,h1,h2⟩
theorem CJ:IxR X (rM X.kx lq):=by
 rintro value slice pins s σ' H x y v u Q I rx ry ⟨α,m,σ,H0,H1,r1,r2,Kc,Rl,h1,h2,ho,fin⟩ hsub;have ho':xI m Kc r1 r2:=ho;unfold xI at ho'
 split at ho'
 .rename_i ds i;obtain⟨d,e,k⟩:=ho';obtain⟨a,xs,rfl,f,g⟩:=bA (show Den X.kx H (.tuple ds) x from h1);have e2:=aL (show Den X.kx H (.int i) y from h2);obtain⟨z,z1,z2⟩:=uL g e;exact IP value slice pins s σ' H _ _ v u Q I rx ry ⟨a,xs,i,z,rfl,e2,f,z1,fin _ _ H k Rl (ko z2) (Frm.refl _ _)⟩ hsub
 .rename_i w i;obtain⟨c,hz,e,k⟩:=ho';have e1:=bq (show Den X.kx H (.str w) x from h1);have e2:=aL (show Den X.kx H (.int i) y from h2);exact FQ value slice pins s σ' H _ _ v u Q I rx ry ⟨w,i,c,e1,e2,hz,e,fin _ _ H k Rl (xn _) (Frm.refl _ _)⟩ hsub
 .rename_i i _ _;obtain⟨ds,d,el,e,k⟩:=ho';obtain⟨a,xs,rfl,f,g⟩:=h1.list Rl el;have e2:=aL (show Den X.kx H (.int i) y from h2);obtain⟨z,z1,z2⟩:=uL g e;exact CK value slice pins s σ' H _ _ v u Q I rx ry ⟨a,xs,i,z,rfl,e2,f,z1,fin _ _ H k Rl (ko z2) (Frm.refl _ _)⟩ hsub
 .exact ho'.elim
theorem Ju{a b:Expr}{wa wb:WE}(ha:ME X a wa)(hb:ME X b wb)(hs:p8 b:=by intro _ _;rfl):ME X (.Subscript a b pos) (wBin lq wa wb):=(La CJ ha hb hs).wk fun _ _ _ h=>rL h
end
def mL(P:Int->Prop):R->Prop
 | .imm (.int i)=>P i
 |_=>False
def p9(P:Nat->Prop):R->Prop
 | .obj k=>P k
 |_=>False
def on1(P:R->Prop):List R->Prop
 |[r]=>P r
 |_=>False
section
variable {K:Kx}{α:Al}{Hb H:Hp}{r:R}{v:V}
theorem xg{P:Int->Prop}(rr:RelR K α Hb H r v)(h:mL P r):∃i,r = .imm (.int i)/\v = .int i/\P i:=by
 unfold mL at h
 split at h
 .exact⟨_,rfl,aL (K:=K) (H:=H) rr,h⟩
 .exact h.elim
theorem wM{P:Nat->Prop}(rr:RelR K α Hb H r v)(h:p9 P r):∃k a,r = .obj k/\α[k]?=some (.L a)/\v = .ref a/\P k:=by
 unfold p9 at h
 split at h
 .obtain⟨a,e1,e2⟩:=rr;exact⟨_,a,rfl,e1,e2,h⟩
 .exact h.elim
theorem dy{P:R->Prop}{rs:List R}(rr:RelRs K α Hb H rs xs)(h:on1 P rs):∃r v,rs=[r]/\xs=[v]/\RelR K α Hb H r v/\P r:=by
 cases rr with
 |nil=>exact h.elim
 |cons h1 t =>
  cases t with
  |nil=>exact⟨_,_,rfl,rfl,h1,h⟩
  |cons _ _=>exact h.elim
end
section
variable {X:Cx}{o a b c e:Expr}{es:List Expr}{wo wa wb wc we wi:WE}{ws:WA}{pos apos cpos:Pos}
abbrev WM:=R->List R->MSt->(R->MSt->Prop)->Prop
def mM(K:Kx)(ob:WM):V->List V->Hp->VK->Prop:=fun x xs H Q=>∃α m σ H0 H1 r rs Kc,Rel K α m σ H/\RelR K α H0 H r x/\RelRs K α H1 H rs xs/\ob r rs m Kc/\∀r m' v H',Kc r m'->m'.np=m.np->Rel K α m' σ H'->RelR K α H H' r v->Frm α H H'->Q v H'
def wML(ob:WM)(wo:WE)(ws:WA):WE:=fun m K=>wo m fun r m1=>(∃ds,lsOf m1 r=some ds)/\ws m1 fun rs m2=>ob r rs m2 K
theorem KZ{ob:WM}(h:tM X.kx (wML ob wo ws) σ H Q):tBM X.K "list" (mM X.kx ob) (tM X.kx wo) (tMA X.kx ws) σ H Q:=by
 obtain⟨α,m,Kc,Rl,hw,fin⟩:=h;refine⟨α,m,_,Rl,hw,fun r m1 v H1 k n1 Rl1 rr F1=>?_⟩;obtain⟨⟨ds,el⟩,k⟩:=k;obtain⟨a,xs,rfl,f,g⟩:=rr.list Rl1 el;refine⟨.inl ⟨rfl,xs,f⟩,α,m1,_,Rl1,k,fun rs m2 vs H2 k2 n2 Rl2 rr2 F2=>?_⟩;exact⟨α,m2,σ,H,H1,r,rs,Kc,Rl2,rr.keep Rl Rl1 F2,rr2,k2,fun r m' v H' k n Rl' rr' F=>fin r m' v H' k (n.trans (n2.trans n1)) Rl' (rr'.base Rl2 (F1.trans F2)) ((F1.trans F2).trans F)⟩
theorem JK{name:Str}{id:String}{ob:WM}(slot:Slot "list" name id)(hty:typeOf (.builtin id)=pure (.type "method_descriptor"))(hm:MtM X id (mM X.kx ob))(ho:ME X o wo)(ha:MA X (e::es) ws)
  (hbase:attributeBase o name X.env (eval o X.env)=eval o X.env:=by rfl)
  (hfew:((backTo cpos (starEach (e::es) X.env)).all (fun x=>!x.1)&&(backToKw cpos (keywordEach [] X.env)).all (fun x=>x.1.isSome)
   && decide ((e::es).length+([]:List Keyword).length+(if ([]:List Keyword).isEmpty then 0 else 1)<30))=true:=by rfl)
  (hline:(apos.endLine==cpos.line)=true:=by rfl) (hs:starEach (e::es) X.env=(false,eval e X.env)::starEach es X.env:=by first|exact aV rfl|rfl) (hplain:(backTo cpos (starEach es X.env)).any (·.1)=false:=by rfl) :
  ME X (.Call (.Attribute o name apos) (e::es) [] cpos) (wML ob wo ws):=(Ic PySem.F.plainAttrs_list slot hty hm ho ha hbase hfew hline hs hplain).wk fun _ _ _ h=>KZ h
def wj:WM:=fun r rs m K=>p9 (fun k=>on1 (cX fun d=>∃ds,m.os[k]?=some ds/\ds.length<sizeLine/\K (.imm .none) {m with os:=m.os.set k (ds++[d])}) rs) r
theorem dM:MtM X "list.append" (mM X.kx wj):=by
 rintro pins s σ' H x xs v us Q I rx rv ⟨α,m,σ,H0,H1,r,rs,Kc,Rl,h1,h2,ho,fin⟩;obtain⟨k,a,rfl,ea,rfl,ho⟩:=wM h1 ho;obtain⟨r2,v2,rfl,rfl,h2,ho⟩:=dy h2 ho;obtain⟨d,rfl,hd,ds,e1,hz,ho⟩:=dU h2 ho;obtain⟨ys,q,g⟩:=Rl.own _ _ ds ea e1;obtain⟨R2,F2⟩:=Rl.setO ea q (g.append (DenAll.cons hd DenAll.nil));exact mY pins s σ' H _ _ v us Q I rx rv ⟨a,ys,_,rfl,rfl,q,by rw[<-g.length];exact hz,fin _ _ _ _ ho rfl R2 w6 F2⟩
def DF(we wo wi:WE):WS:=fun D m=>we m fun rv m1=>cX (fun d=>wo m1 fun ro m2=>wi m2 fun ri m3=>p9 (fun k=>mL (fun z=>∃ds j,m3.os[k]?=some ds/\ixN ds.length z=some j/\D.nx {m3 with os:=m3.os.set k (ds.set j d)}) ri) ro) rv
theorem BC{b i:Expr}(he:ME X e we)(ho:ME X b wo)(hi:ME X i wi)(hs:swapsWithSole [.Subscript b i pos'] e pos.line X.env=pure false:=by rfl)(hw:swappedStores [.Subscript b i pos'] e X.env=pure none:=by rfl)
  (h1:(assignEach [.Subscript b i pos'] X.env).map (·.2)=[assign (.Subscript b i pos') X.env]:=by rfl) (ha:∀v,assign (.Subscript b i pos') X.env v=(do
   let ov <- holding [v] (eval b X.env)
   let iv <- holding [v,ov] (eval i X.env)
   standAt pos'
   holding [v,ov,iv] (setItem ov iv v)
   release [v,ov,iv] []):=by intro _;rfl):MS X (.Assign [.Subscript b i pos'] e pos) (DF we wo wi):=(zY he (Jh ho hi zj ha) hs hw h1).wk fun D σ H ⟨α,m,De,Rl,hw,k⟩=>by
 refine⟨α,m,_,Rl,hw,fun r m1 v H1 q n1 Rl1 rr F1=>?_⟩;obtain⟨d,er,hd,q⟩:=dU rr q;refine⟨α,m1,_,Rl1,q,fun ro m2 ov H2 q2 n2 Rl2 rr2 F2=>⟨α,m2,_,Rl2,q2,fun ri m3 iv H3 q3 n3 Rl3 rr3 F3=>?_⟩⟩;obtain⟨kk,p,rfl,ea,rfl,q3⟩:=wM rr2 q3;obtain⟨z,rfl,rfl,ds,j,e1,e2,q3⟩:=xg rr3 q3;obtain⟨ys,q,g⟩:=Rl3.own _ _ ds ea e1;have hd3:Den X.kx H3 d v:=(hd.mono (Rl1.pers F2)).mono (Rl2.pers F3);obtain⟨R4,F4⟩:=Rl3.setO ea q (g.set hd3 j);exact⟨p,ys,z,j,rfl,rfl,q,by rw[<-g.length];exact e2,k.nx α _ σ _ q3 (n3.trans (n2.trans n1)) R4 (.of R4 (((F1.trans F2).trans F3).trans F4))⟩
def lenR(m:MSt)(K:R->Prop):R->Prop
 | .imm (.str x)=>x.length≤sizeLine/\K (.imm (.int x.length))
 | .imm (.tuple ds)=>K (.imm (.int ds.length))
 |r=>∃ds,lsOf m r=some ds/\K (.imm (.int ds.length))
def oLen:WC:=fun rs m K=>on1 (lenR m K) rs
theorem aK:dn X (.builtin "len") (cM X.kx oLen):=by
 rintro pins s σ' H xs us Q I rv ⟨α,m,σ,H0,rs,Kc,Rl,h,ho,fin⟩;obtain⟨r,v,rfl,rfl,h1,ho⟩:=dy h ho;unfold lenR at ho
 split at ho
 .rename_i x _;have e:=bq (show Den X.kx H (.str x) _ from h1);subst e;exact na pins s σ' H _ us Q I rv ⟨x,rfl,ho.1,fin _ _ H ho.2 Rl (di _) (Frm.refl _ _)⟩
 .rename_i ds _;obtain⟨a,ys,rfl,f,g⟩:=bA (show Den X.kx H (.tuple ds) _ from h1);exact i8 pins s σ' H _ us Q I rv ⟨a,ys,rfl,.inr f,by rw[<-g.length];exact fin _ _ H ho Rl (di _) (Frm.refl _ _)⟩
 .obtain⟨ds,el,ho⟩:=ho;obtain⟨a,ys,rfl,f,g⟩:=h1.list Rl el;exact i8 pins s σ' H _ us Q I rv ⟨a,ys,rfl,.inl f,by rw[<-g.length];exact fin _ _ H ho Rl (di _) (Frm.refl _ _)⟩
def oAbs:WC:=fun rs m K=>on1 (mL fun i=>K (.imm (.int (if i<0 then -i else i)))) rs
theorem ng:dn X (.builtin "abs") (cM X.kx oAbs):=by
 rintro pins s σ' H xs us Q I rv ⟨α,m,σ,H0,rs,Kc,Rl,h,ho,fin⟩;obtain⟨r,v,rfl,rfl,h1,ho⟩:=dy h ho;obtain⟨i,rfl,rfl,ho⟩:=xg h1 ho;exact yk pins s σ' H _ us Q I rv ⟨i,rfl,fin _ _ H ho Rl (di _) (Frm.refl _ _)⟩
def intR(K:R->Prop):R->Prop
 | .imm (.int i)=>K (.imm (.int i))
 | .imm (.bool b)=>K (.imm (.int (if b then 1 else 0)))
 |_=>False
def oInt:WC:=fun rs m K=>on1 (intR K) rs
theorem ki:dn X (.type "int") (cM X.kx oInt):=by
 rintro pins s σ' H xs us Q I rv ⟨α,m,σ,H0,rs,Kc,Rl,h,ho,fin⟩;obtain⟨r,v,rfl,rfl,h1,ho⟩:=dy h ho;unfold intR at ho
 split at ho
 .rename_i i _;have e:=aL (show Den X.kx H (.int i) _ from h1);subst e;exact mz pins s σ' H _ us Q I rv (.inl ⟨i,rfl,fin _ _ H ho Rl (di _) (Frm.refl _ _)⟩)
 .rename_i i _;have e:=jX (show Den X.kx H (.bool i) _ from h1);subst e;exact mz pins s σ' H _ us Q I rv (.inr ⟨i,rfl,fin _ _ H ho Rl (di _) (Frm.refl _ _)⟩)
 .exact ho.elim
def sqOf(m:MSt):R->Option (List PyData)
 | .imm (.tuple ds)=>some ds
 |r=>lsOf m r
theorem RelR.seq{K:Kx}{m:MSt}(Rl:Rel K α m σ H)(h:RelR K α H0 H r v)(e:sqOf m r=some ds):∃a xs,v = .ref a/\(SqL K H a xs\/SqT K H a xs)/\DenAll K H ds xs:=by
 unfold sqOf at e
 split at e
 .cases e;obtain⟨a,ys,e,f,g⟩:=bA (show Den K H (.tuple ds) _ from h);exact⟨a,ys,e,.inr f,g⟩
 .obtain⟨a,ys,e,f,g⟩:=h.list Rl e;exact⟨a,ys,e,.inl f,g⟩
def zW:WC:=fun rs m K=>on1 (fun r=>∃ds,sqOf m r=some ds/\K (.imm (.tuple ds))) rs
theorem gi:dn X (.type "tuple") (cM X.kx zW):=by
 rintro pins s σ' H xs us Q I rv ⟨α,m,σ,H0,rs,Kc,Rl,h,ho,fin⟩;obtain⟨r,v,rfl,rfl,h1,ho⟩:=dy h ho
 .obtain⟨ds,e,ho⟩:=ho;obtain⟨a,ys,rfl,f,g⟩:=h1.seq Rl e;refine lJ pins s σ' H _ us Q I rv ⟨a,ys,rfl,?_⟩;rcases f with f|f
  .exact .inl ⟨f,fun l hl=>fin _ _ _ ho (Rl.lay hl) (ko (dg (SqT.of aC) (g.mono (bx (.inl hl))))) (cW hl)⟩
  .exact .inr ⟨f,fin _ _ _ ho Rl (ko (dg f g)) (Frm.refl _ _)⟩
def Aw:WC:=fun rs m K=>on1 (fun r=>∃d,asD m r=some d/\d.showable=true/\d.hasDict=false/\d.shown.length≤sizeLine/\d.depth≤100/\K (.imm (.str d.shown))) rs
theorem k8(hg:X.A.guards=some [])(hu:X.A.units+200<cLine):dn X (.builtin "repr") (cM X.kx Aw):=by
 rintro pins s σ' H xs us Q I rv ⟨α,m,σ,H0,rs,Kc,Rl,h,ho,fin⟩;obtain⟨r,v,rfl,rfl,h1,ho⟩:=dy h ho
 .obtain⟨d,e,hs,hnd,hz,hdp,ho⟩:=ho;obtain⟨u,rfl,ru⟩:=rv.one;obtain⟨as,q⟩:=h1.reads I Rl ru e hnd;have done:∀tk tk2 h',(∀b o,s.heap.get? b=some o->h'.get? b=some o)->EP X pins σ' Q (.str d.shown tk2) {s with heap:=h',toks:=tk}:=fun tk tk2 h' hk=>⟨.str d.shown,H,I.kept (t':=tk) hk,⟨_,rfl⟩,fin _ _ H ho Rl (xn _) (Frm.refl _ _)⟩
  cases q with
  |none=>exact PySem.P.repr_of_none (done _ _ _ fun _ _ z=>z)
  |bool b =>
   have:=done (s.toks+1) s.toks s.heap fun _ _ z=>z;simp only[PyData.shown]at this;exact PySem.P.repr_of_bool (by cases b<;>exact this)
  |int i t =>
   refine PySem.P.repr_of_int (by simpa[PyData.showable]using hs) ?_;have:=done (s.toks+1) s.toks s.heap fun _ _ z=>z;simp only[PyData.shown]at this;exact this
  |str x t =>
   have hz':(reprText x).length≤sizeLine:=by simpa only[PyData.shown]using hz
   refine PySem.P.repr_of_str ?_ hz';have:=done (s.toks+1) s.toks s.heap fun _ _ z=>z;simp only[PyData.shown]at this;exact this
  |list z1 z2 z3 z4=>exact repr_of_reads' (.list z1 z2 z3 z4) hs (PyData.noDict_hsm hnd) hg (by omega) (fun _ _ z=>z) (fun h' u tk hk=>done tk u h' hk) hz
  |tuple z1 z2 z3 z4=>exact repr_of_reads' (.tuple z1 z2 z3 z4) hs (PyData.noDict_hsm hnd) hg (by omega) (fun _ _ z=>z) (fun h' u tk hk=>done tk u h' hk) hz
  |dict z1 z2 z3 z4 z5=>simp[PyData.hasDict]at hnd
def sM(K:Kx)(o:R->Option Int->Option Int->MSt->(R->Prop)->Prop):V->Option Int->Option Int->Hp->VK->Prop:=fun x lo hi H Q=>∃α m σ H0 r Kc,Rel K α m σ H/\RelR K α H0 H r x/\o r lo hi m Kc/\∀r v H',Kc r->Rel K α m σ H'->RelR K α H H' r v->Frm α H H'->Q v H'
def cutD(xs:List PyData)(lo hi:Option Int):List PyData:=(xs.drop (HT.sIx xs.length 0 lo)).take (HT.sIx xs.length xs.length hi-HT.sIx xs.length 0 lo)
theorem uG(g:DenAll K H ds xs)(lo hi:Option Int):DenAll K H (cutD ds lo hi) (cutV xs lo hi):=by
 unfold cutD cutV;rw[<-g.length];exact(g.drop _).take _
def JH:R->Option Int->Option Int->MSt->(R->Prop)->Prop:=fun r lo hi m K=>∃ds,lsOf m r=some ds/\K (.new (cutD ds lo hi))
theorem yy:SlR X (sM X.kx JH):=by
 intro pins s σ' H x v vl vu lo hi sl Q I rx hs pl pu hq;obtain⟨α,m,σ,H0,r,Kc,Rl,h,⟨ds,e,k⟩,fin⟩:=hq;obtain⟨a,ys,rfl,f,g⟩:=h.list Rl e;exact Bj pins s σ' H _ v vl vu lo hi sl Q I rx hs pl pu ⟨a,ys,rfl,f,fun p hp=>fin _ _ _ k (Rl.lay hp) ⟨p,_,rfl,hp,aC,(uG g lo hi).mono (bx (.inl hp))⟩ (cW hp)⟩
def WO1:=MSt->(Option Int->MSt->Prop)->Prop
def tMO(K:Kx)(w:WO1):TO:=fun σ H Q=>∃α m Kc,Rel K α m σ H/\w m Kc/\∀r m' H',Kc r m'->m'.np=m.np->Rel K α m' σ H'->Frm α H H'->Q r H'
def pF:WO1:=fun m K=>K none m
def C8(w:WE):WO1:=fun m K=>w m fun r m'=>mL (fun i=>K (some i) m') r
theorem PO.wk{X:Cx}{e:Option Expr}{t t':TO}(h:PO X e t)(k:∀σ H Q,t' σ H Q->t σ H Q):PO X e t':=fun pins s σ H Q I q=>h pins s σ H Q I (k _ _ _ q)
abbrev MO(X:Cx)(e:Option Expr)(w:WO1):Prop:=PO X e (tMO X.kx w)
theorem BI:MO X none pF:=(BG (X:=X)).wk fun σ H Q ⟨α,m,Kc,Rl,hw,fin⟩=>fin none m H hw rfl Rl (Frm.refl _ _)
theorem Ca(he:ME X e we):MO X (some e) (C8 we):=(Bm he).wk fun σ H Q ⟨α,m,Kc,Rl,hw,fin⟩=>by
 refine⟨α,m,_,Rl,hw,fun r m1 v H1 k n1 Rl1 rr F1=>?_⟩;obtain⟨i,rfl,rfl,k⟩:=xg rr k;exact⟨i,rfl,fin _ m1 H1 k n1 Rl1 F1⟩
def wSl(ob:R->Option Int->Option Int->MSt->(R->Prop)->Prop)(we:WE)(wl wh:WO1):WE:=fun m K=>we m fun r m1=>wl m1 fun l m2=>wh m2 fun u m3=>ob r l u m3 fun r'=>K r' m3
theorem yc{p2:Pos}(hr:SlR X (sM X.kx ob))(he:ME X e we)(hl:MO X lo wl)(hu:MO X hi wh):ME X (.Subscript e (.Slice lo hi none p2) pos) (wSl ob we wl wh):=(y0 hr he hl hu).wk fun σ H Q ⟨α,m,Kc,Rl,hw,fin⟩ =>
 ⟨α,m,_,Rl,hw,fun r m1 v H1 k n1 Rl1 rr F1=>⟨α,m1,_,Rl1,k,fun l m2 H2 k2 n2 Rl2 F2=>⟨α,m2,_,Rl2,k2,fun u m3 H3 k3 n3 Rl3 F3=>⟨α,m3,σ,H,r,_,Rl3,(rr.keep Rl Rl1 F2).keep Rl Rl2 F3,k3,fun r' v' H' k4 Rl4 rr4 F4=>fin r' m3 v' H' k4 (n3.trans (n2.trans n1)) Rl4 (rr4.base Rl3 ((F1.trans F2).trans F3)) (((F1.trans F2).trans F3).trans F4)⟩⟩⟩⟩
end
def agV:Nat->List Ag->List (Option R)
 |_,[]=>[]
 |k,.imm d::as=>some (.imm d)::agV k as
 |k,.own _::as=>some (.obj k)::agV (k+1) as
 |k,.tr _::as=>some (.at k [])::agV (k+1) as
def agO:List Ag->List (List PyData)
 |[]=>[]
 | .imm _::as=>agO as
 | .own ds::as=>ds::agO as
 | .tr t::as=>[t]::agO as
def h9(n:Nat)(as:List Ag):MSt:=⟨agV 0 as++List.replicate (n-as.length) none,agO as,(agO as).length⟩
def outR(m:MSt):R->R
 | .imm d=>.imm d
 | .new ds=>.new ds
 | .newT t=>.newT t
 | .obj k=>if k<m.np then .obj k else .new (m.os.getD k [])
 | .at k p=>if k<m.np then .at k p else match p,m.os[k]? with
  |[],some [t]=>.newT t
  |_,_=>.at k p
theorem c8:∀(k:Nat) (as:List Ag),(agV k as).length=as.length
 |_,[]=>rfl
 |k,.imm d::as=>by simp[agV,c8 k as]
 |k,.own _::as=>by simp[agV,c8 (k+1) as]
 |k,.tr _::as=>by simp[agV,c8 (k+1) as]
section
variable {K:Kx}{H:Hp}
theorem RelAs.facts{K:Kd}:∀{as:List Ag}{vs:List V}{β:Al}{pre:Al},RelAs K H as vs β ->
  (agO as).length=β.length/\(∀(k:Nat) (ao:Ao) (ds:List PyData),β[k]?=some ao->(agO as)[k]?=some ds->OwnAt K H ao ds) /\
   ∀(i:Nat) (r:R),(agV pre.length as)[i]?=some (some r)->∃v,vs[i]?=some v/\RelS K (pre++β) H r v
 |_,_,_,_,.nil=>⟨rfl,fun k a ds h=>by simp at h,fun i r h=>by simp[agV]at h⟩
 | _,_,β,pre,.imm (as:=as) hd t=>by
  obtain⟨h1,h2,h3⟩:=t.facts (pre:=pre);refine⟨h1,h2,fun i r h=>?_⟩
  cases i with
  |zero=>simp[agV]at h;subst h;exact⟨_,rfl,hd⟩
  |succ i =>
   obtain⟨v,e,q⟩:=h3 i r (by simpa[agV]using h);exact⟨v,by simpa using e,q⟩
 | _,_,_,pre,.own (a:=a) (β:=β) ha t=>by
  obtain⟨h1,h2,h3⟩:=t.facts (pre:=pre++[.L a]);refine⟨by simp[agO,h1],fun k b ds z1 z2=>?_,fun i r h=>?_⟩
  .cases k with
   |zero=>simp[agO]at z1 z2;subst z1;subst z2;exact ha
   |succ k=>exact h2 k b ds (by simpa using z1) (by simpa[agO]using z2)
  .cases i with
   |zero=>simp[agV]at h;subst h;exact⟨_,rfl,a,by simp,rfl⟩
   |succ i =>
    obtain⟨v,e,q⟩:=h3 i r (by simpa[agV]using h);refine⟨v,by simpa using e,?_⟩;rw[List.append_assoc]at q;exact q
 | _,_,_,pre,.tr (a:=a) (τ:=τ) (β:=β) ha el t=>by
  obtain⟨h1,h2,h3⟩:=t.facts (pre:=pre++[.T τ]);refine⟨by simp[agO,h1],fun k b ds z1 z2=>?_,fun i r h=>?_⟩
  .cases k with
   |zero=>simp[agO]at z1 z2;subst z1;subst z2;exact ha
   |succ k=>exact h2 k b ds (by simpa using z1) (by simpa[agO]using z2)
  .cases i with
   |zero=>simp[agV]at h;subst h;exact⟨_,rfl,τ,a,by simp,el,rfl⟩
   |succ i =>
    obtain⟨v,e,q⟩:=h3 i r (by simpa[agV]using h);refine⟨v,by simpa using e,?_⟩;rw[List.append_assoc]at q;exact q
theorem uz(hN:N.length=nN)(hle:n≤nN)(hl:as.length=n)(nd:(ads β).Nodup)(ra:RelAs K H as vs β)(hb:K.eb.np≤(agO as).length)(hx:Ext K.eb.np K.eb.be K.eb.H β H):Rel K β (h9 nN as) (start N vs) H:=by
 obtain⟨h1,h2,h3⟩:=ra.facts (pre:=[]);have hvl:as.length=vs.length:=ra.length;refine⟨nd,by rw[<-h1];rfl,h2,?_,fun i r e=>?_,by rw[<-h1];exact Nat.le_refl _,hb,hx⟩
 .unfold start h9;simp only[List.length_append,List.length_map,List.length_replicate,c8];omega
 .have e':(agV 0 as++List.replicate (nN-as.length) none)[i]?=some (some r):=e
  by_cases hi:i<as.length
  .rw[List.getElem?_append_left (by rw[c8];exact hi)]at e';obtain⟨v,ev,q⟩:=h3 i r e';refine⟨v,?_,by simpa using q⟩;unfold start;rw[List.getElem?_append_left (by rw[List.length_map];omega),List.getElem?_map,ev];rfl
  .rw[List.getElem?_append_right (by rw[c8];omega),List.getElem?_replicate]at e'
   split at e'<;>cases e'
theorem q9{m':MSt}(ra:RelAs K H as vs β)(hn:m'.np=(agO as).length)(R':Rel K α' m' σ' H')(x:Ext (agO as).length β H α' H'):xj K H' β (m'.os.take m'.np)/\Frm β H H'/\β=α'.take (agO as).length:=by
 obtain⟨h1,h2,h3⟩:=ra.facts (pre:=[]);have e1:α'.take (agO as).length=β:=by rw[x.pre,h1,List.take_length]
 refine⟨⟨?_,fun j a ds z1 z2=>?_⟩,x.frm,e1.symm⟩
 .have:=R'.npl;rw[R'.len]at this;rw[List.length_take,hn,<-h1];omega
 .rw[<-e1,List.getElem?_take]at z1;rw[hn,List.getElem?_take]at z2
  by_cases hj:j<(agO as).length
  .rw[if_pos hj]at z1 z2;exact R'.own j a ds z1 z2
  .rw[if_neg hj]at z1;cases z1
theorem AU{m':MSt}(hn:m'.np=(agO as).length)(R':Rel K α' m' σ' H')(x:Ext (agO as).length β H α' H')(eβ:β=α'.take (agO as).length)(rr:RelR K α' H H' r v)
  (ok:∀k p,r = .at k p->k<m'.np\/(p=[]/\∃t,m'.os[k]?=some [t])):RelR K β H H' (outR m' r) v:=by
 have out:∀{k:Nat}{ao:Ao},¬k<m'.np->α'[k]?=some ao->∀b∈ao.ads,H b=none:=fun {k ao} hk ea b hb=>by
  rcases x.new b (iZ ea hb)with z|z
  .exfalso;rw[eβ]at z;obtain⟨j,ao',ej,hm⟩:=gN z;rw[List.getElem?_take]at ej
   by_cases hj:j<(agO as).length
   .rw[if_pos hj]at ej;exact fJ R'.nd ea ej (by omega) hb hm
   .rw[if_neg hj]at ej;cases ej
  .exact z
 have inb:∀{k:Nat}{ao:Ao},k<m'.np->α'[k]?=some ao->β[k]?=some ao:=fun {k ao} hk ea=>by
  rw[eβ,List.getElem?_take,if_pos (by rw[<-hn];exact hk)];exact ea
 cases r with
 |imm d=>exact rr
 |new ds=>exact rr
 |newT t=>exact rr
 | obj k =>
  obtain⟨a,ea,rfl⟩:=rr;unfold outR
  by_cases hk:k<m'.np
  .simp only[hk,if_true];exact⟨a,inb hk ea,rfl⟩
  .simp only[hk,if_false];have hk2:k<m'.os.length:=by rw[<-R'.len];exact(List.getElem?_eq_some_iff.mp ea).1
   have e3:m'.os[k]?=some (m'.os.getD k []):=by rw[List.getD_eq_getElem?_getD,List.getElem?_eq_getElem hk2];rfl
   obtain⟨xs,y1,y2⟩:=R'.own k _ _ ea e3;exact⟨a,xs,rfl,out hk ea a (List.mem_singleton.mpr rfl),y1,y2⟩
 | «at» k p =>
  obtain⟨τ,a,ea,el,rfl⟩:=rr;unfold outR
  by_cases hk:k<m'.np
  .simp only[hk,if_true];exact⟨τ,a,inb hk ea,el,rfl⟩
  .simp only[hk,if_false];rcases ok k p rfl with z|⟨rfl,t,et⟩
   .exact(hk z).elim
   .rw[et];have g:=R'.own k _ _ ea et;exact⟨τ,a,rfl,el,((gh α').mp R'.nd).1 _ (List.mem_of_getElem? ea),out hk ea,g⟩
def okR(m:MSt):R->Prop
 | .at k p=>k<m.np\/(p=[]/\∃t,m.os[k]?=some [t])
 |_=>True
theorem okR.at{m:MSt}(h:okR m r):∀k p,r = .at k p->k<m.np\/(p=[]/\∃t,m.os[k]?=some [t]):=fun k p e=>by subst e;exact h
def retK(Kc:R->List (List PyData)->Prop)(m:MSt):R->Prop
 | .at k p=>okR m (.at k p)/\Kc (outR m (.at k p)) (m.os.take m.np)
 | .imm d=>Kc (.imm d) (m.os.take m.np)
 | .new ds=>Kc (.new ds) (m.os.take m.np)
 | .obj k=>Kc (outR m (.obj k)) (m.os.take m.np)
 | .newT t=>Kc (.newT t) (m.os.take m.np)
theorem retK.ok{Kc:R->List (List PyData)->Prop}{m:MSt}(h:retK Kc m r):okR m r/\Kc (outR m r) (m.os.take m.np):=by
 cases r with
 | «at» k p=>exact h
 |imm d=>exact⟨trivial,h⟩
 |new ds=>exact⟨trivial,h⟩
 |obj k=>exact⟨trivial,h⟩
 |newT t=>exact⟨trivial,h⟩
theorem fn_m{E:XK}(he:K.eb=⟨0,[],fun _=>none⟩)(h:spOf K n sp vs H Q E)(hN:N.length=nN)(hle:n≤nN)
  (hw:∀as Kc,as.length=n->sp as Kc->w {nx:=fun m=>Kc (.imm .none) (m.os.take m.np),rt:=fun r m=>retK Kc m r} (h9 nN as)):tMS K w {nx:=fun _ H'=>Q .non H',rt:=Q} (start N vs) H:=by
 obtain⟨as,β,Kc,hl,nd,ra,hsp,fin⟩:=h;have R0:Rel K β (h9 nN as) (start N vs) H:=uz hN hle hl nd ra (by rw[he];exact Nat.zero_le _) (by rw[he];exact⟨rfl,fun _ _ z=>(by cases z),fun _ _=>.inr rfl,fun a ha=>(by cases ha)⟩);refine⟨β,h9 nN as,_,R0,hw as Kc hl hsp,⟨fun α' m' σ' H' q hn R' x=>?_,fun r α' m' σ' v H' q hn R' rr x=>?_,fun _ _ _ _ z=>z.elim,fun _ _ _ _ z=>z.elim⟩⟩
 .obtain⟨O,F,_⟩:=q9 ra hn R' x;exact fin _ _ .non H' q O w6 F
 .obtain⟨O,F,eβ⟩:=q9 ra hn R' x;have q':=retK.ok q;exact fin _ _ v H' q'.2 O (AU hn R' x eβ rr q'.1.at) F
end
structure FnM(P:Program)(w:World)(K:PySem.W.Frag)(mg:Str->Option Value)(base:Heap)(x:Str)(k n:Nat)(sp:SpM):Prop where
 ex:∃(f:Addr) (fd:FuncData) (ps:List Str),FnOk P w K mg base CX0 k f fd ps (spOf ⟨K,w⟩ n sp)/\mg x=some (.ref f)/\PySem.W.keepIn K (.ref f)=true/\Binds K fd ps []
 ar:∀as Kc,sp as Kc->as.length=n
structure DefM(K:PySem.W.Frag)(mg:Str->Option Value)(x:Str)(st:Stmt)(ps:List Str):Prop where
 ex:∃(f:Addr) (fd:FuncData),Fun K x x st f fd/\mg x=some (.ref f)/\Binds K fd ps []
theorem J6{P:Program}{w:World}{K:PySem.W.Frag}{base:Heap}{k:Nat}(D:DefM K mg x st ps)(S:au N ps (ad st))(hn:ps.length=n)(hN:N.length=nN)(hle:n≤nN)(ar:∀as Kc,sp as Kc->as.length=n)
  (hbody:∀(cdv:Value) (A:Around) (outer:List Env) (s:Shared) (H:Hp) (E:XK) (f:Addr),Room k (A.deeper (envOfC x (ad st) s.heap.objs.size f cdv)) ->
   ∃ww,MSs (cxOf CX0 P w K mg base N x (ad st) f cdv A outer s H E).nox (dE st) ww/\∀as Kc,as.length=n->sp as Kc->ww {nx:=fun m=>Kc (.imm .none) (m.os.take m.np),rt:=fun r m=>retK Kc m r} (h9 nN as)) :
  FnM P w K mg base x (k+1) n sp:=by
 obtain⟨f,fd,F,hm,hb⟩:=D.ex;refine⟨⟨f,fd,ps,F.ok S (fun vs H Q E h=>by rw[hn];exact h.len) (fun cdv A outer s H vs Q E hr h=>?_),hm,F.kp,hb⟩,ar⟩;obtain⟨ww,h1,h2⟩:=hbody cdv A outer s H E f hr;exact⟨_,h1,fn_m (K:=(cxOf CX0 P w K mg base N x (ad st) f cdv A outer s H E).nox.kx) rfl h hN hle h2⟩
section
variable {X:Cx}{a:Expr}{es:List Expr}{ws:WA}{pos p:Pos}{k n:Nat}{sp:SpM}{x:Str}
theorem ym(F:FnM X.prog X.w X.K X.mg X.base x k n sp)(hr:Room k X.A)(ha:MA X (a::es) ws)(hg:Gl X x:=by rfl)(hdb:(x==("__debug__" : Str))=false:=by decide)(he:starEach (a::es) X.env=(false,eval a X.env)::starEach es X.env:=by first|exact aV rfl|rfl)(hpl:(backTo pos (starEach es X.env)).any (·.1)=false:=by rfl) :
  ME X (.Call (.Name x p) (a::es) [] pos) (o9 sp ws):=by
 obtain⟨f,fd,ps,G,hm,hk,hb⟩:=F.ex;exact Bt (E:=E0) G hr hg hm hk hb KH F.ar ha hdb he hpl
theorem Room.u200{k:Nat}{A:Around}(r:Room k A):A.units+200<cLine:=by have:=r.un;omega
theorem bX:bootBuiltins "len" = some (.builtin "len"):=by decide +kernel
theorem zQ:bootBuiltins "abs" = some (.builtin "abs"):=by decide +kernel
theorem rB:bootBuiltins "sum" = some (.builtin "sum"):=by decide +kernel
theorem rq:bootBuiltins "max" = some (.builtin "max"):=by decide +kernel
theorem GZ:bootBuiltins "min" = some (.builtin "min"):=by decide +kernel
theorem vx:bootBuiltins "repr" = some (.builtin "repr"):=by decide +kernel
theorem mh:bootBuiltins "tuple" = some (.type "tuple"):=by decide +kernel
theorem wm:bootBuiltins "int" = some (.type "int"):=by decide +kernel
theorem oi:bootBuiltins "enumerate" = some (.type "enumerate"):=by decide +kernel
end
section
variable {m:MSt}{K:R->MSt->Prop}{Kb:Bool->MSt->Prop}{Ka:List R->MSt->Prop}{Kr:R->Prop}{D:cZ}{wa wb wc we wo wi:WE}{ws:WA}{wt wu:WT}{w u:WS}{o:WO}{d:PyData}{r r1 r2:R}{i j:Int}{k:Nat}
theorem fh(h:w {D with nx:=fun m'=>u D m' } m):wSeq w u D m:=h
theorem Fb(h:D.nx m):Cc D m:=h
theorem Lm(h:wa m fun r1 m1=>wb m1 fun r2 m2=>o r1 r2 m2 fun r=>K r m2):wBin o wa wb m K:=h
theorem CV(e:m.vs[n]?=some (some r))(h:K r m):wVar n m K:=⟨r,e,h⟩
theorem x_c(h:K (.imm d) m):wC d m K:=h
theorem Ki(h:we m fun r m'=>D.rt r m'):wRet we D m:=h
theorem Jg(h:we m fun _ m'=>D.nx m'):BH we D m:=h
theorem JN(h:wt m fun c m'=>if c=true then w D m' else u D m'):wIfS wt w u D m:=h
theorem FI(h:we m fun r m'=>onBl (fun k=>Kb k m') r):sn we m Kb:=h
theorem KO(h:wt m fun c m1=>if c=true then wu m1 Kb else Kb false m1):wAnd wt wu m Kb:=h
theorem x_or(h:wt m fun c m1=>if c=true then Kb true m1 else wu m1 Kb):wOr wt wu m Kb:=h
theorem Lu(h:wt m fun c m1=>Kb (!c) m1):wNot wt m Kb:=h
theorem Ji{P:Bool->Prop}{b:Bool}(h:P b):onBl P (.imm (.bool b)):=h
theorem Du{P:Int->Prop}(h:P i):mL P (.imm (.int i)):=h
theorem Av{P:Nat->Prop}(h:P k):p9 P (.obj k):=h
theorem Bq{P:PyData->Prop}(h:P d):cX P (.imm d):=h
theorem KJ{P:R->Prop}(h:P r):on1 P [r]:=h
theorem iW(h:A):if true=true then A else B:=by rw[if_pos rfl];exact h
theorem gg(h:B):if false=true then A else B:=by rw[if_neg Bool.false_ne_true];exact h
theorem aA{c:Prop}[Decidable c](h1:c->A)(h2:¬c->B):if decide c=true then A else B:=by
 by_cases h:c
 .rw[if_pos (decide_eq_true h)];exact h1 h
 .rw[if_neg (by rw[decide_eq_false h];exact Bool.false_ne_true)];exact h2 h
theorem x_un{ob:WU}(h:wa m fun r1 m1=>ob r1 m1 fun r=>K r m1):wUn ob wa m K:=h
theorem JT(h:Kr (.imm (.int (-i)))):uNeg (.imm (.int i)) m Kr:=h
theorem J7(h:we m fun r m'=>match r with| .imm d=>K (.imm d) m' | .new ds=>K (.imm (.list ds)) m'|_=>False):wImm we m K:=h
theorem J5(h:Ka [] m):wNil m Ka:=h
theorem Gi(h:we m fun r m1=>ws m1 fun rs m2=>Ka (r::rs) m2):ij we ws m Ka:=h
theorem JW(h:ws m fun rs m'=>uw (fun ds=>K (.imm (.tuple ds)) m') (fg rs)):wTup ws m K:=h
theorem KW(h:ws m fun rs m'=>uw (fun ds=>K (.new ds) m') (fg rs)):wLst ws m K:=h
theorem Kq{rs:List R}{P:List PyData->Prop}(e:fg rs=some ds)(hz:ds.length≤sizeLine)(h:P ds):uw P (fg rs):=by rw[e];exact⟨hz,h⟩
theorem x_cb{oc:WC}(h:ws m fun rs m1=>oc rs m1 fun r=>K r m1):wCB oc ws m K:=h
theorem IZ(h:ws m fun rs m1=>match gY m1 rs with|some (as,ks)=>ks.Nodup/\sp as fun r outs=>K (mapR ks r) {m1 with os:=cr m1.os ks outs}|none=>False):o9 sp ws m K:=h
theorem K7{rs:List R}{P:List Ag->List Nat->Prop}(e:gY m rs=some (as,ks))(hn:ks.Nodup)(h:P as ks):match gY m rs with|some (as,ks)=>ks.Nodup/\P as ks|none=>False:=by rw[e];exact⟨hn,h⟩
theorem pQ(h:we m fun r m'=>mw n D.nx m' r):wSet n we D m:=h
theorem bJ(h:P (m.setV n (.imm d))):mw n P m (.imm d):=.inl h
theorem cE(h:P {vs:=m.vs.set n (some (.obj m.os.length)),os:=m.os++[ds],np:=m.np}):mw n P m (.new ds):=.inl (.inl h)
theorem Jy(h:we m fun r m'=>cX (fun d=>g d m' D.nx) r):wAsg we g D m:=h
theorem Jt{n':Nat}(h:ws m fun rs m'=>match rs with|[.imm d1,.imm d2]=>D.nx ((m'.setV n (.imm d1)).setV n' (.imm d2))|_=>False):wPar n n' ws D m:=h
theorem Gg(h:we m fun rv m1=>cX (fun d=>wo m1 fun ro m2=>wi m2 fun ri m3=>p9 (fun k=>mL (fun z=>∃ds j,m3.os[k]?=some ds/\ixN ds.length z=some j/\D.nx {m3 with os:=m3.os.set k (ds.set j d)}) ri) ro) rv):DF we wo wi D m:=h
theorem JY{k:Nat}{z:Int}{P:List PyData->Nat->Prop}(e1:m.os[k]?=some ds)(e2:ixN ds.length z=some n)(h:P ds n):∃ds j,m.os[k]?=some ds/\ixN ds.length z=some j/\P ds j:=⟨ds,n,e1,e2,h⟩
theorem x_ml{ob:WM}(h:wo m fun r m1=>(∃ds,lsOf m1 r=some ds)/\ws m1 fun rs m2=>ob r rs m2 K):wML ob wo ws m K:=h
theorem x_ls{P:Prop}(e:lsOf m r=some ds)(h:P):(∃ds,lsOf m r=some ds)/\P:=⟨⟨ds,e⟩,h⟩
theorem jm(e:m.os[k]?=some ds)(hz:ds.length<sizeLine)(h:K (.imm .none) {m with os:=m.os.set k (ds++[d])}):wj (.obj k) [.imm d] m K:=⟨ds,e,hz,h⟩
theorem FH(h:Kr (.imm (.int (i+j)))):oAdd (.imm (.int i)) (.imm (.int j)) m Kr:=h
theorem jx{a b:List PyData}(hz:a.length+b.length≤sizeLine)(h:Kr (.imm (.tuple (a++b)))):oAdd (.imm (.tuple a)) (.imm (.tuple b)) m Kr:=⟨hz,h⟩
theorem F8(h:Kr (.imm (.int (i-j)))):oSub (.imm (.int i)) (.imm (.int j)) m Kr:=⟨trivial,h⟩
theorem gQ(hc:CFd i j)(h:Kr (.imm (.int (i/j)))):DT (.imm (.int i)) (.imm (.int j)) m Kr:=⟨hc,h⟩
theorem AM(hc:0<j)(h:Kr (.imm (.int (i%j)))):oMod (.imm (.int i)) (.imm (.int j)) m Kr:=⟨hc,h⟩
theorem JP(hc:CPow i j)(h:Kr (.imm (.int (i^j.toNat)))):oPow (.imm (.int i)) (.imm (.int j)) m Kr:=⟨hc,h⟩
theorem x_lt(h:Kr (.imm (.bool (decide (i<j))))):oLt (.imm (.int i)) (.imm (.int j)) m Kr:=h
theorem x_gt(h:Kr (.imm (.bool (decide (j<i))))):oGt (.imm (.int i)) (.imm (.int j)) m Kr:=h
theorem x_ge(h:Kr (.imm (.bool (decide (j≤i))))):oGe (.imm (.int i)) (.imm (.int j)) m Kr:=h
theorem x_eq{d1 d2:PyData}(e1:asD m r1=some d1)(e2:asD m r2=some d2)(s1:SeqAt.shaped d1=true)(s2:SeqAt.shaped d2=true)(h:Kr (.imm (.bool (PyData.eqv d1 d2)))):oEq r1 r2 m Kr:=by refine Or.inl ?_;unfold eqD;rw[e1,e2];exact⟨s1,s2,h⟩
theorem x_ne{d1 d2:PyData}(e1:asD m r1=some d1)(e2:asD m r2=some d2)(s1:SeqAt.shaped d1=true)(s2:SeqAt.shaped d2=true)(h:Kr (.imm (.bool (!PyData.eqv d1 d2)))):oNe r1 r2 m Kr:=by refine Or.inl ?_;unfold eqD;rw[e1,e2];exact⟨s1,s2,h⟩
theorem JM(h:Kr (.imm (.bool (decide (i=j))))):oEq (.imm (.int i)) (.imm (.int j)) m Kr:=x_eq rfl rfl rfl rfl (by simp only[PyData.eqv];rw[Bool.beq_eq_decide_eq];exact h)
theorem J4(h:Kr (.imm (.bool (decide (i≠j))))):oNe (.imm (.int i)) (.imm (.int j)) m Kr:=x_ne rfl rfl rfl rfl (by simp only[PyData.eqv];rw[Bool.beq_eq_decide_eq,<-decide_not];exact h)
theorem JG(h:Kr (.imm (.bool (decide (x=y))))):oEq (.imm (.str x)) (.imm (.str y)) m Kr:=Or.inr (Or.inl ⟨x,y,rfl,rfl,h⟩)
theorem JC(h:Kr (.imm (.bool (!decide (x=y))))):oNe (.imm (.str x)) (.imm (.str y)) m Kr:=Or.inr ⟨x,y,rfl,rfl,h⟩
theorem zg(h:Kr (.imm (.bool (!wn r)))):xw r (.imm .none) m Kr:=⟨rfl,h⟩
theorem aD(e:atI ds i=some d)(h:Kr (.imm d)):lq (.imm (.tuple ds)) (.imm (.int i)) m Kr:=⟨d,e,h⟩
theorem qe(e:atI ds i=some d)(h:Kr (.imm d)):lq (.imm (.list ds)) (.imm (.int i)) m Kr:=⟨ds,d,rfl,e,h⟩
theorem lS(e1:m.os[k]?=some ds)(e:atI ds i=some d)(h:Kr (.imm d)):lq (.obj k) (.imm (.int i)) m Kr:=⟨ds,d,e1,e,h⟩
theorem iC(e:atI ds i=some d)(h:Kr (.imm d)):lq (.new ds) (.imm (.int i)) m Kr:=⟨ds,d,rfl,e,h⟩
theorem Jw{rs:List R}(h:on1 (lenR m Kr) rs):oLen rs m Kr:=h
theorem DQ(h:Kr (.imm (.int ds.length))):lenR m Kr (.imm (.tuple ds)):=h
theorem DM(h:Kr (.imm (.int ds.length))):lenR m Kr (.imm (.list ds)):=⟨ds,rfl,h⟩
theorem DG(e:m.os[k]?=some ds)(h:Kr (.imm (.int ds.length))):lenR m Kr (.obj k):=⟨ds,e,h⟩
theorem Jb(h:Kr (.imm (.int ds.length))):lenR m Kr (.new ds):=⟨ds,rfl,h⟩
theorem Kz(h:Kr (.imm (.int (if i<0 then -i else i)))):oAbs [.imm (.int i)] m Kr:=h
theorem Gj{b:Bool}(h:Kr (.imm (.int (if b then 1 else 0)))):oInt [.imm (.bool b)] m Kr:=h
theorem Ay(e:sqOf m r=some ds)(h:Kr (.imm (.tuple ds))):zW [r] m Kr:=⟨ds,e,h⟩
theorem Gv(e:asD m r=some d)(h1:d.showable=true)(h2:d.hasDict=false)(h3:d.shown.length≤sizeLine)(h4:d.depth≤100)(h:Kr (.imm (.str d.shown))):Aw [r] m Kr:=⟨d,e,h1,h2,h3,h4,h⟩
theorem x_sl(h:we m fun r m1=>wl m1 fun l m2=>wh m2 fun u m3=>ob r l u m3 fun r'=>K r' m3):wSl ob we wl wh m K:=h
theorem yV(h:Ko none m):pF m Ko:=h
theorem Jq(h:we m fun r m'=>mL (fun i=>Ko (some i) m') r):C8 we m Ko:=h
theorem x_gM(h:P (m.setV n (.imm d))):gM n d m P:=h
theorem GA(h:P m):BO [] m P:=⟨rfl,h⟩
theorem Dl(h:g d m fun m'=>gs ds m' P):xk g gs (d::ds) m P:=h
theorem FY(e:ds.length=n)(h:gs ds m P):AK n gs (.tuple ds) m P:=⟨e,h⟩
theorem Lp{wi:WI}(h:wi m fun s m1=>gL s g w D m1):wFor wi g w D m:=h
theorem Jm(h:we m fun r m'=>srcR m' Ks r):CI we m Ks:=h
theorem FV(h:Ks ⟨ds,none⟩ m):srcR m Ks (.imm (.list ds)):=h
theorem GH(h:Ks ⟨ds,none⟩ m):srcR m Ks (.imm (.tuple ds)):=h
theorem IR(e:m.os[k]?=some ds)(h:Ks ⟨ds,some k⟩ m):srcR m Ks (.obj k):=⟨ds,e,h⟩
theorem IJ(h:ws m fun rs m'=>match rs with|[.imm (.int j)]=>-(2^62)≤j/\j<2^62/\Ks ⟨ga 0 j.toNat,none⟩ m'|_=>False):vj ws m Ks:=h
theorem Lh(h:wt m fun b m'=>if b=true then w D m' else D.nx m'):wIfT wt w D m:=h
theorem yj(h:Kb true m):pZ m Kb:=h
theorem GI(h:we m fun r m'=>cX (fun d=>∃ds,m'.os[q]?=some ds/\ds.length<sizeLine/\D.nx {m' with os:=m'.os.set q (ds++[d])}) r):sF q we D m:=h
end
theorem ai{D:cZ}{m:MSt}(m':MSt)(e:m=m')(h:w D m'):w D m:=e▸h
theorem Kj{i j:Int}(h:(-18446744073709551616<i/\i<18446744073709551616)\/(-18446744073709551616<j/\j<18446744073709551616)):IntMulOk i j:=CMul.ok (by unfold CMul;exact h)
theorem cfd{i j:Int}(h0:0<j)(h1:j<1152921504606846976):CFd i j:=⟨h0,by
 have:j.natAbs<2^60:=by omega
 have:=(Nat.log2_lt (by omega)).mpr this;omega⟩
theorem jJ:∀ns:List Int,PyData.canLayAll0 (ns.map .int)=true
 |[]=>rfl
 |n::ns=>by simp only[List.map_cons,PyData.canLayAll0,PyData.canLay0,jJ ns,Bool.and_self]
theorem kW:∀ns:List Int,PyData.depthAll (ns.map .int)≤1
 |[]=>Nat.zero_le 1
 |n::ns=>by
  have:=kW ns;rw[List.map_cons];simp only[PyData.depthAll,PyData.depth];omega
theorem II{α:Type}{xs:List α}{i:Int}(h0:0≤i)(h1:i<xs.length):∃d,xs[i.toNat]?=some d/\atI xs i=some d:=by
 have hl:i.toNat<xs.length:=by omega
 refine⟨xs[i.toNat],List.getElem?_eq_getElem hl,?_⟩;unfold atI ixN;rw[if_pos h0,if_pos h1];exact List.getElem?_eq_getElem hl
theorem y8{i:Int}(h0:0≤i)(h1:i<ns.length):∃x:Int,atI (ns.map PyData.int) i=some (.int x):=by
 obtain⟨d,e,h⟩:=II (xs:=ns.map PyData.int) h0 (by rw[List.length_map];exact h1);rw[List.getElem?_map]at e
 cases q:ns[i.toNat]? with
 |none=>rw[q]at e;cases e
 |some x=>rw[q]at e;cases e;exact⟨x,h⟩
section
variable {X:Cx}{tg a b c e:Expr}{es:List Expr}{wo wa wb wc we wi:WE}{ws:WA}{pos p p2:Pos}
def cR:List PyData->Option (List Int)
 |[]=>some []
 | .int i::ds=>(cR ds).map (i :: ·)
 |_::_=>none
theorem fH(h:cR ds=some ns):ds=ns.map .int:=by
 induction ds generalizing ns with
 |nil=>cases h;rfl
 | cons d ds ih =>
  cases d with
  |int i =>
   simp only[cR]at h
   cases q:cR ds with
   |none=>rw[q]at h;cases h
   |some ms=>rw[q]at h;cases h;rw[ih q];rfl
  |none=>cases h
  |bool _=>cases h
  |str _=>cases h
  |list _=>cases h
  |tuple _=>cases h
  |dict _=>cases h
theorem cz:∀ns:List Int,cR (ns.map .int)=some ns
 |[]=>rfl
 |n::ns=>by simp only[List.map_cons,cR,cz ns,Option.map_some]
theorem dj{K:Kd}{H:Hp}:∀{ns:List Int}{xs:List V},DenAll K H (ns.map .int) xs->xs=ns.map V.int
 |[],_,h=>by simpa only[List.map_nil,DenAll]using h
 |n::ns,_,h=>by
  simp only[List.map_cons,DenAll]at h;obtain⟨v,vs,rfl,h1,h2⟩:=h;have e:=aL (K:=K) (H:=H) h1;rw[e,dj h2];rfl
def oSum:WC:=fun rs m K=>on1 (fun r=>∃ds ns,lsOf m r=some ds/\cR ds=some ns/\K (.imm (.int ns.sum))) rs
theorem uX(hc:X.calm=true):dn X (.builtin "sum") (cM X.kx oSum):=by
 rintro pins s σ' H xs us Q I rv ⟨α,m,σ,H0,rs,Kc,Rl,h,ho,fin⟩;obtain⟨r,v,rfl,rfl,h1,ds,ns,el,ei,ho⟩:=dy h ho;obtain⟨a,ys,rfl,f,g⟩:=h1.list Rl el;rw[fH ei]at g;have ey:=dj g;subst ey;obtain⟨u,rfl,ru⟩:=rv.one;cases ru;obtain⟨its,rv1,pl,_⟩:=I.list f;have hi:=fI rv1;have hall:AllInts its.toArray:=hi.allInts;obtain⟨xs,ex⟩:=hall.items;have hl:s.heap.IsList a (intItems xs):=by rw[<-ex];exact pl.isList
 refine sum_intListG (I.ok.hd hc) hl fun h' tk t' hk=>?_;have e1:preSum (numAt xs) xs.size=ns.sum:=by
  have e2:(numsOf its).sum=ns.sum:=by rw[hi.numsOf]
  rw[<-e2];have e3:=congrArg Array.toList ex;have e4:its=(intItems xs).toList:=by simpa using e3
  rw[e4,nums_intItems,preSum_eq,List.take_of_length_le (by simp)]
 rw[e1];exact⟨.int ns.sum,H,I.kept (t':=tk) hk,⟨_,rfl⟩,fin _ _ H ho Rl (di _) (Frm.refl _ _)⟩
end
theorem dI{D:cZ}(P:Nat->MSt->Prop)(p0:P 0 m1)
  (step:∀(i:Nat) (d:PyData) (m:MSt),ds[i]?=some d->m.np=m1.np->P i m->g d m fun m2=>w {nx:=P (i+1),ct:=P (i+1),bk:=fun m'=>D.nx (m'.setN m1.np),rt:=fun r m'=>D.rt r (m'.setN m1.np)} m2)
  (fin:∀m,m.np=m1.np->P ds.length m->D.nx m):gL ⟨ds,none⟩ g w D m1:=by
 refine⟨P,p0,fun i d m e n p=>⟨trivial,step i d m e n p⟩,fun m n p=>⟨trivial,?_⟩⟩;have e:m.setN m1.np=m:=by
  obtain⟨a,b,c⟩:=m;have n':c=m1.np:=n;subst n';rfl
 rw[e];exact fin m n p
theorem iE{k:Nat}{D:cZ}(P:Nat->MSt->Prop)(p0:P 0 (m1.setN (max m1.np (k+1))))
  (ok:∀i m,P i m->m.os[k]?=some ds)
  (step:∀(i:Nat) (d:PyData) (m:MSt),ds[i]?=some d->m.np=max m1.np (k+1)->P i m->g d m fun m2=>w {nx:=P (i+1),ct:=P (i+1),bk:=fun m'=>D.nx (m'.setN m1.np),rt:=fun r m'=>D.rt r (m'.setN m1.np)} m2)
  (fin:∀m,m.np=max m1.np (k+1)->P ds.length m->D.nx (m.setN m1.np)):gL ⟨ds,some k⟩ g w D m1 :=
 ⟨P,p0,fun i d m e n p=>⟨ok i m p,step i d m e n p⟩,fun m n p=>⟨ok _ m p,fin m n p⟩⟩
theorem lu{t:WT}{D:cZ}{m0:MSt}(P:Nat->MSt->Prop)(n0:Nat)(p0:P n0 m0)
  (step:∀n m,m.np=m0.np->P n m->t m fun c m'=>if c=true then w {D with nx:=fun m2=>∃n',n'<n/\P n' m2,ct:=fun m2=>∃n',n'<n/\P n' m2,bk:=D.nx} m' else D.nx m'):wF t w D m0:=⟨P,⟨n0,p0⟩,step⟩
theorem yD(h:ds.length≤n):cutD ds none (some (n:Int))=ds:=by
 unfold cutD;rw[HT.sIx_none,HT.sIx_nat,Nat.min_eq_right h,Nat.sub_zero,List.drop_zero,List.take_length]
theorem Ck{m:MSt}{K:R->MSt->Prop}{ps:List Nat}(h:wi m fun s m1=>gL s g (wIfT tt (sF m1.os.length we)) {nx:=fun m'=>K (.new (m'.os.getD m1.os.length [])) {m1 with os:=m'.os.take m1.os.length},rt:=fun _ _=>False} (jc own ps m1)):k6 wi own ps g tt we m K:=h
theorem C7{m:MSt}{K:R->MSt->Prop}{wi2:WI}{ps:List Nat}{g2:WG}{tt2:WT}(h:wi m fun s m1=>gL s g (wIfT tt fun D m2=>wi2 m2 fun s2 m3=>gL s2 g2 (wIfT tt2 (sF m1.os.length we)) D m3) {nx:=fun m'=>K (.new (m'.os.getD m1.os.length [])) {m1 with os:=m'.os.take m1.os.length},rt:=fun _ _=>False} (jc own ps m1)):qV wi own ps g tt wi2 g2 tt2 we m K:=h
theorem kZ{k:Nat}{m:MSt}(h1:m.vs[n]?=some (some (.obj k)))(h2:m.np≤k)(h3:∀j:Nat,j≠n->m.vs[j]?≠some (some (.obj k)))(h:P {m with os:=m.os.set k ds}):mw n P m (.new ds):=.inr ⟨k,h1,h2,h3,h⟩
theorem bM{α:Type}{xs:List α}{k:Nat}{d x:α}(h:xs[k]?=some x):xs.getD k d=x:=by
 rw[List.getD_eq_getElem?_getD,h];rfl
theorem x_JS{m:MSt}{D:cZ}(Φ:MSt->Prop)(h:∀N:MSt->Prop,(∀m',Φ m'->N m')->w {D with nx:=N} m)(J:∀m',Φ m'->D.nx m'):w D m:=h D.nx J
structure Fine(n k:Nat)(d:PyData):Prop where
 sh:d.showable=true
 nd:d.hasDict=false
 ln:d.shown.length≤n
 dp:d.depth≤k
theorem Fine.mono{k n' k':Nat}{d:PyData}(h:Fine n k d)(hn:n≤n')(hk:k≤k'):Fine n' k' d:=⟨h.sh,h.nd,Nat.le_trans h.ln hn,Nat.le_trans h.dp hk⟩
theorem qJ{n k:Nat}:∀{ds:List PyData},(∀d∈ds,Fine n k d)->PyData.showableAll ds=true/\PyData.hasDictAll ds=false/\((PyData.shownAll ds).map (·.length)).sum≤ds.length*n/\(PyData.shownAll ds).length=ds.length/\PyData.depthAll ds≤k
 |[],_=>⟨rfl,rfl,by simp[PyData.shownAll],rfl,by simp[PyData.depthAll]⟩
 |d::ds,h=>by
  obtain⟨h1,h2,h3,h4,h5⟩:=qJ fun d' h'=>h d' (List.mem_cons_of_mem _ h');have h0:=h d List.mem_cons_self;refine⟨?_,?_,?_,?_,?_⟩
  .show(d.showable&&PyData.showableAll ds)=true;rw[h0.sh,h1];rfl
  .show(d.hasDict||PyData.hasDictAll ds)=false;rw[h0.nd,h2];rfl
  .show(d.shown.length::(PyData.shownAll ds).map (·.length)).sum≤_;rw[List.sum_cons,List.length_cons,Nat.succ_mul];have:=h0.ln;omega
  .show(PyData.shownAll ds).length+1=_;rw[h4];rfl
  .show max d.depth (PyData.depthAll ds)≤k;have:=h0.dp;omega
theorem kz{k c:Nat}(h:∀d∈ds,Fine n k d)(hc:ds.length≤c):Fine (c*(n+2)+3) (k+1) (.tuple ds):=by
 obtain⟨h1,h2,h3,h4,h5⟩:=qJ h;refine⟨h1,h2,?_,?_⟩
 .show(tupleText (PyData.shownAll ds)).length≤_;have:=tupleText_len_le (PyData.shownAll ds);have e:ds.length*(n+2)≤c*(n+2):=Nat.mul_le_mul_right _ hc;rw[Nat.mul_add]at e;rw[h4]at this;omega
 .show PyData.depthAll ds+1≤_;omega
structure Shp(k:Nat)(d:PyData):Prop where
 cl:d.canLay0=true
 dp:d.depth≤k
theorem d7(i:Int):Shp 0 (.int i):=⟨rfl,Nat.le_refl _⟩
theorem jU{k:Nat}:∀{ds:List PyData},(∀d∈ds,Shp k d)->PyData.canLayAll0 ds=true/\PyData.depthAll ds≤k
 |[],_=>⟨rfl,by simp[PyData.depthAll]⟩
 |d::ds,h=>by
  obtain⟨h1,h2⟩:=jU fun d' h'=>h d' (List.mem_cons_of_mem _ h');have h0:=h d List.mem_cons_self;refine⟨?_,?_⟩
  .simp only[PyData.canLayAll0];rw[h0.cl,h1];rfl
  .show max d.depth (PyData.depthAll ds)≤k;have:=h0.dp;omega
theorem vO{k:Nat}(h:∀d∈ds,Shp k d):Shp (k+1) (.tuple ds):=by
 obtain⟨h1,h2⟩:=jU h;exact⟨by simp only[PyData.canLay0];exact h1,by show PyData.depthAll ds+1≤_;omega⟩
theorem xu{m:MSt}{d:PyData}{Kr:R->Prop}{k:Nat}(h:Fine n k d)(e:asD m r=some d)(hn:n≤16777216)(hk:k≤100)(hK:Kr (.imm (.str d.shown))):Aw [r] m Kr:=Gv e h.sh h.nd (by rw[sizeLine_eq];exact Nat.le_trans h.ln hn) (Nat.le_trans h.dp hk) hK
theorem s9(hO:Only H)(h:SqL K H a (ns.map V.int)):Den K H (.list (ns.map .int)) (.ref a):=by
 simp only[Den];refine⟨a,_,rfl,?_,DenAll.ints _⟩;rcases h with(h|⟨o,h⟩)|h
 .rcases hO a with z|⟨o,xs,z⟩
  .rw[h]at z;cases z
  .rw[h]at z;cases z
 .exact .inl ⟨o,h⟩
 .exact .inr h
theorem GY{P:Program}{w:World}{K:PySem.W.Frag}{base:Heap}{k:Nat}(F:Fun K x x st f fd)(S:au N ps (ad st))(hn:ps.length=n)(hN:N.length=nN)(hle:n≤nN)
  (hbody:∀(cdv:Value) (A:Around) (outer:List Env) (s:Shared) (H:Hp) (E:XK) (f:Addr),Room k (A.deeper (envOfC x (ad st) s.heap.objs.size f cdv)) ->
   ∃ww,MSs (cxOf CX0 P w K mg base N x (ad st) f cdv A outer s H E).nox (dE st) ww/\∀as Kc,as.length=n->sp as Kc->ww {nx:=fun m=>Kc (.imm .none) (m.os.take m.np),rt:=fun r m=>retK Kc m r} (h9 nN as)) :
  FnOk P w K mg base CX0 (k+1) f fd ps (spOf ⟨K,w⟩ n sp):=by
 refine F.ok S (fun vs H Q E h=>by rw[hn];exact h.len) (fun cdv A outer s H vs Q E hr h=>?_);obtain⟨ww,h1,h2⟩:=hbody cdv A outer s H E f hr;exact⟨_,h1,fn_m (K:=(cxOf CX0 P w K mg base N x (ad st) f cdv A outer s H E).nox.kx) rfl h hN hle h2⟩
structure DefK(K:PySem.W.Frag)(x:Str)(st:Stmt):Prop where
 ex:∃(f:Addr) (fd:FuncData),PySem.W.nsIn K mainGlobals x=some (some (.ref f))/\Fun K x x st f fd
theorem DefK.of{K:PySem.W.Frag}{oc kV doc pm cdv ct:Value}{an:Option Addr}{sl:Array (Option Value)}(a:PySem.W.nsIn K mainGlobals x=some (some (.ref f)))
  (l:K.lookup f=some ⟨oc,od,.func (PySem.W.fnOf x x (jN st) (dE st) (ad st) .none kV doc pm an cdv ct),sl⟩) (c:PySem.W.codeIn K cdv x=true) (k:PySem.W.keepIn K (.ref f)=true):DefK K x st:=⟨f,_,a,IW l c k⟩
theorem DefK.m{K:PySem.W.Frag}{h:Heap}(D:DefK K x st)(X:K.In h)(G:h.Ns mainGlobals mg)(b:∀(f:Addr) (fd:FuncData),Fun K x x st f fd->Binds K fd ps []):DefM K mg x st ps:=by
 obtain⟨f,fd,a,F⟩:=D.ex;exact⟨f,fd,F,PySem.W.mg_of X G a,b f fd F⟩
structure EE(X:Cx)(e:Expr)(w:WE):Prop where
 h:ME X e w
structure ET(X:Cx)(e:Expr)(w:WT):Prop where
 h:MT X e w
structure EW(X:Cx)(e:Expr)(w:WT):Prop where
 h:MW X e w
structure EA(X:Cx)(es:List Expr)(w:WA):Prop where
 h:MA X es w
structure ES(X:Cx)(st:Stmt)(w:WS):Prop where
 h:MS X st w
structure ESs(X:Cx)(st:List Stmt)(w:WS):Prop where
 h:MSs X st w
structure EI(X:Cx)(tg e:Expr)(w:WI):Prop where
 h:MI X tg e w
structure EG(X:Cx)(t:Expr)(w:WG):Prop where
 h:MG X t w
structure EGs(X:Cx)(ts:List Expr)(w:WGs):Prop where
 h:MGs X ts w
structure EO(X:Cx)(e:Option Expr)(w:WO1):Prop where
 h:MO X e w
structure ETs(X:Cx)(ifs:List Expr)(w:WT):Prop where
 h:PTs X ifs (tMT X.kx w)
theorem EW.pt{w:WT}(h:EW X e w):ET X e w:=⟨h.h.pt⟩
section
variable {X:Cx}{a b c:Expr}{es:List Expr}{wa wb wc:WE}{pos:Pos}
theorem mh'{i j pos}:EE X (.Constant (.int i) j pos) (wC (.int i)):=⟨Jn⟩
theorem v8{i j pos}:EE X (.Constant (.bool i) j pos) (wC (.bool i)):=⟨Ld⟩
theorem aB{i j pos}:EE X (.Constant (.str i) j pos) (wC (.str i)):=⟨Fj⟩
theorem p7{j pos}:EE X (.Constant .none j pos) (wC .none):=⟨Ie⟩
theorem mv'(i:Nat){pos:Pos}(hN:X.N[i]?=some x:=by rfl)(hv:Vis X.env.scope x:=by first|exact Or.inl rfl|exact Or.inr (Or.inl rfl)|exact Or.inr (Or.inr rfl))(hd:(x==("__debug__" : Str))=false:=by decide)(hcd:(x==("__classdict__" : Str))=false:=by decide):EE X (.Name x pos) (wVar i):=⟨mv i hN hv hd hcd⟩
theorem ac{op:Operator}(ho:OpR X (binaryOp op) (rM X.kx o))(ha:EE X a wa)(hb:EE X b wb):EE X (.BinOp a op b pos) (wBin o wa wb):=⟨IL ho ha.h hb.h⟩
theorem iI(ho:OpR X (compareOp op) (rM X.kx o))(ha:EE X a wa)(hb:EE X b wb)(hm:behindInMarks op b=false):EE X (.Compare a [op] [b] pos) (wBin o wa wb):=⟨Jo ho ha.h hb.h hm⟩
theorem ak(ho:OpR X (compareOp op) (rM X.kx o))(ha:EE X a wa)(hb:EE X b wb)(hm:behindInMarks op b=false):ET X (.Compare a [op] [b] pos) (sn (wBin o wa wb)):=⟨DL ho ha.h hb.h hm⟩
theorem oX(ha:EE X a wa)(he:∀whole,isTrue a X.env whole=(do let v <- whole;standAt a.pos;holding [v] (truthy v)):=by intro _;rfl):ET X a (sn wa):=⟨Gh ha.h he⟩
end
section
variable {X:Cx}{a b c:Expr}{es:List Expr}{wa wb wc:WE}{pos:Pos}
variable {wt wu:WT}{rest:List Expr}
theorem h7(ha:ET X a wt):EW X (.BoolOp .And [a] pos) wt:=⟨Bz ha.h⟩
theorem vW(ha:ET X a wt):EW X (.BoolOp .Or [a] pos) wt:=⟨GC ha.h⟩
theorem fz(ha:ET X a wt)(hb:EW X (.BoolOp .And (b::rest) pos) wu):EW X (.BoolOp .And (a::b::rest) pos) (wAnd wt wu):=⟨Ir ha.h hb.h⟩
theorem v3(ha:ET X a wt)(hb:EW X (.BoolOp .Or (b::rest) pos) wu):EW X (.BoolOp .Or (a::b::rest) pos) (wOr wt wu):=⟨JA ha.h hb.h⟩
theorem AV(ha:ET X a wt):ET X (.UnaryOp .Not a pos) (wNot wt):=⟨Jr ha.h⟩
theorem jF{op:UnaryOp}{o:WU}(ho:UnR X (unaryOp op) (uM X.kx o))(ha:EE X a wa):EE X (.UnaryOp op a pos) (wUn o wa):=⟨J9 ho ha.h⟩
theorem dG(ha:EE X a wa):EE X a (wImm wa):=⟨F7 ha.h⟩
end
section
variable {X:Cx}{a b c:Expr}{es:List Expr}{wa wb wc:WE}{pos:Pos}
variable {wt wu:WT}{rest:List Expr}
variable {ws:WA}
theorem mn'  : EA X [] wNil:=⟨FC⟩
theorem mc'(ha:EE X a wa)(hr:EA X es ws)(hs:starEach (a::es) X.env=(false,eval a X.env)::starEach es X.env:=by first|exact aV rfl|rfl):EA X (a::es) (ij wa ws):=⟨Br ha.h hr.h hs⟩
theorem ae{x1}(h:EA X es ws):EE X (.Tuple es x1 pos) (wTup ws):=⟨G9 h.h⟩
theorem bR(h:EA X es ws):EE X (.List es pos) (wLst ws):=⟨GV h.h⟩
theorem al{id:String}{o:WC}(hc:dn X (.builtin id) (cM X.kx o))(hg:Gl X x)(hm:X.mg x=none)(hv:bootBuiltins x=some (.builtin id))(ha:EA X (a::es) ws)(hn:x ≠ "__name__" :=by decide)(hdb:(x==("__debug__" : Str))=false:=by decide)(he:starEach (a::es) X.env=(false,eval a X.env)::starEach es X.env:=by first|exact aV rfl|rfl)(hpl:(backTo pos (starEach es X.env)).any (·.1)=false:=by rfl):EE X (.Call (.Name x p) (a::es) [] pos) (wCB o ws):=⟨yW hc hg hm hv ha.h hn hdb he hpl⟩
theorem da{T:String}{o:WC}(hc:dn X (.type T) (cM X.kx o))(hg:Gl X x)(hm:X.mg x=none)(hv:bootBuiltins x=some (.type T))(ha:EA X (a::es) ws)(hn:x ≠ "__name__" :=by decide)(hdb:(x==("__debug__" : Str))=false:=by decide)(he:starEach (a::es) X.env=(false,eval a X.env)::starEach es X.env:=by first|exact aV rfl|rfl)(hpl:(backTo pos (starEach es X.env)).any (·.1)=false:=by rfl):EE X (.Call (.Name x p) (a::es) [] pos) (wCB o ws):=⟨vN hc hg hm hv ha.h hn hdb he hpl⟩
end
section
variable {X:Cx}{a b c e:Expr}{es:List Expr}{wa wb wc we:WE}{pos:Pos}{st:Stmt}{rest:List Stmt}{w u:WS}
theorem am  : ESs X [] Cc:=⟨CG⟩
theorem mz'(h1:ES X st w)(h2:ESs X rest u):ESs X (st::rest) (wSeq w u):=⟨yg h1.h h2.h⟩
theorem aa(h1:ES X st w):ESs X [st] w:=⟨Bv h1.h⟩
end
section
variable {X:Cx}{a b c e:Expr}{es:List Expr}{wa wb wc we:WE}{ws:WA}{wt:WT}{pos:Pos}{st:Stmt}{rest body body2:List Stmt}{w u:WS}
theorem ah(he:EE X e we):ES X (.Return (some e) pos) (wRet we):=⟨Ja he.h⟩
theorem d4(he:EE X e we)(hs:swapsWith e none pos.line X.env=pure false:=by rfl):ES X (.Expr e pos) (BH we):=⟨Cw he.h hs⟩
theorem aM(ht:ET X t wt)(h1:ESs X body w)(h2:ESs X body2 u):ES X (.If t body body2 pos) (wIfS wt w u):=⟨K9 ht.h h1.h h2.h⟩
theorem vE  : ES X st zU:=⟨yT⟩
theorem cU(hN:X.N.Nodup)(hi:X.N[i]?=some x)(hx:Loc X.env.scope x)(he:EE X e we)(hs:swapsWith e (some (.Name x pos')) pos.line X.env=pure false:=by rfl)(hf:X.fn x=true\/X.env.scope.names.lookup x=some .local:=by first|exact .inl rfl|exact .inr rfl|assumption):ES X (.Assign [.Name x pos'] e pos) (wSet i we):=⟨Fc hN hi hx he.h hs hf⟩
theorem lD(hN:X.N.Nodup)(hi:X.N[i]?=some x)(hx:Loc X.env.scope x)(hf:X.fn x=true\/X.env.scope.names.lookup x=some .local:=by first|exact .inl rfl|exact .inr rfl|assumption):EG X (.Name x pos) (gM i):=⟨AG hN hi hx hf⟩
theorem aY  : EGs X [] BO:=⟨Dh⟩
theorem af{e:Expr}{es:List Expr}(h1:EG X e g)(h2:EGs X es gs)(hs:(assignEach (e::es) X.env).map (·.2)=assign e X.env::(assignEach es X.env).map (·.2):=by rfl):EGs X (e::es) (xk g gs):=⟨yN h1.h h2.h hs⟩
theorem bo{es:List Expr}{k:Nat}(h:EGs X es gs)(hc:X.calm=true:=by rfl)(hn:(assignEach es X.env).length=n:=by rfl)(hst:(assignEach es X.env).findIdx? (·.1)=none:=by rfl):EG X (.Tuple es k pos) (AK n gs):=⟨Gf h.h hc hn hst⟩
theorem cC(he:EE X e we)(hg:EG X tg g)(hs:swapsWithSole [tg] e pos.line X.env=pure false:=by rfl)(hw:swappedStores [tg] e X.env=pure none:=by rfl)(h1:(assignEach [tg] X.env).map (·.2)=[assign tg X.env]:=by rfl):ES X (.Assign [tg] e pos) (wAsg we g):=⟨E8 he.h hg.h hs hw h1⟩
theorem jI{px py pt:Pos}{kt k2 pt2}(hN:X.N.Nodup)(hi:X.N[i]?=some x)(hj:X.N[j]?=some y)(hij:i≠j)(hx:X.env.scope.names.lookup x=some .local)(hy:X.env.scope.names.lookup y=some .local)(ha:EA X [a,b] ws)(hw:swappedStores [.Tuple [.Name x px,.Name y py] kt pt] (.Tuple [a,b] k2 pt2) X.env=pure (some [x,y]))(hc:X.calm=true:=by rfl)(hs:swapsWithSole [.Tuple [.Name x px,.Name y py] kt pt] (.Tuple [a,b] k2 pt2) pos.line X.env=pure false:=by rfl):ES X (.Assign [.Tuple [.Name x px,.Name y py] kt pt] (.Tuple [a,b] k2 pt2) pos) (wPar i j ws):=⟨GX hN hi hj hij hx hy ha.h hw hc hs⟩
end
section
variable {X:Cx}{tg a b c e iter:Expr}{es:List Expr}{wa wb wc we:WE}{ws:WA}{wt:WT}{pos:Pos}{st:Stmt}{rest body body2:List Stmt}{w u:WS}
theorem bG(he:EE X e we):EI X tg e (CI we):=⟨DJ he.h⟩
theorem bz(hg:Gl X "range")(hm:X.mg "range" = none)(ha:EA X [a] ws)(hs:starEach [a] X.env=[(false,eval a X.env)]:=by first|exact cv rfl|rfl):EI X tg (.Call (.Name "range" p) [a] [] pos) (vj ws):=⟨uf hg hm ha.h hs⟩
theorem bf(hi:EI X tg iter wi)(hg:EG X tg g)(hb:ESs X body w)(hp:PassesOwn (model X.prog X.w) X.A X.env X.xe)(hc:X.calm=true:=by rfl)(hs:∀x,foldedSetIterable iter X.env x=pure x:=by intro _;rfl):ES X (.For tg iter body [] pos) (wFor wi g w):=⟨Jj hi.h hg.h hb.h hp hc hs⟩
theorem ia(ht:ET X t wt)(hb:ESs X body w)(hp:PassesOwn (model X.prog X.w) X.A X.env X.xe):ES X (.While t body [] pos) (wF wt w):=⟨yP ht.h hb.h hp⟩
end
section
variable {X:Cx}{scope sc:Scope}{own fr:List Str}{ps:List Nat}{elt tg iter tg2 iter2:Expr}{ifs ifs2:List Expr}{pos spos py:Pos}{wi wi2:WI}{g g2:WG}{tt tt2:WT}{we:WE}
theorem cp(S:bT own fr scope sc)(hi:EI X tg iter wi)(hg:∀cl s H C ex,EG (aP X scope cl (own++fr) s H C ex) tg g)(ht:∀cl s H C ex,ETs (aP X scope cl (own++fr) s H C ex) ifs tt)(he:∀cl s H C ex,EE (aP X scope cl (own++fr) s H C ex) elt we)(hsc:X.env.scope=sc:=by rfl)(hps:ps.map (fun i=>X.N[i]?)=fr.map some:=by rfl)(hc:X.calm=true:=by rfl)(hs:∀x,foldedSetIterable iter X.env x=pure x:=by intro _;rfl):EE X (.ListComp elt [⟨tg,iter,ifs,0⟩] scope pos) (k6 wi own ps g tt we):=⟨y9 S hi.h (fun cl s H C ex=>(hg cl s H C ex).h) (fun cl s H C ex=>(ht cl s H C ex).h) (fun cl s H C ex=>(he cl s H C ex).h) hsc hps hc hs⟩
theorem cJ  : ETs X [] pZ:=⟨AQ⟩
theorem qL{t:WT}(h:ET X c t):ETs X [c] t:=⟨CP h.h⟩
theorem uv(S:bT own fr scope sc)(hN:X.N.Nodup)(hy:X.N[i]?=some y)(hlc:X.env.scope.names.lookup y=some .local)(hi:EI X tg iter wi)(hg:∀cl s H C ex,EG (aP X scope cl (own++fr) s H C ex) tg g)(ht:∀cl s H C ex,ETs (aP X scope cl (own++fr) s H C ex) ifs tt)(he:∀cl s H C ex,EE (aP X scope cl (own++fr) s H C ex) elt we)(hsw:swapsWith (.ListComp elt [⟨tg,iter,ifs,0⟩] scope pos) (some (.Name y py)) spos.line X.env=pure true:=by rfl)(hsc:X.env.scope=sc:=by rfl)(hps:ps.map (fun i=>X.N[i]?)=fr.map some:=by rfl)(hc:X.calm=true:=by rfl)(hs:∀x,foldedSetIterable iter X.env x=pure x:=by intro _;rfl):ES X (.Assign [.Name y py] (.ListComp elt [⟨tg,iter,ifs,0⟩] scope pos) spos) (wSet i (k6 wi own ps g tt we)):=⟨xN S hN hy hlc hi.h (fun cl s H C ex=>(hg cl s H C ex).h) (fun cl s H C ex=>(ht cl s H C ex).h) (fun cl s H C ex=>(he cl s H C ex).h) hsw hsc hps hc hs⟩
theorem xr(S:bT own fr scope sc)(hN:X.N.Nodup)(hy:X.N[i]?=some y)(hlc:X.env.scope.names.lookup y=some .local)(hi:EI X tg iter wi)(hg:∀cl s H C ex,EG (aP X scope cl (own++fr) s H C ex) tg g)(ht:∀cl s H C ex,ETs (aP X scope cl (own++fr) s H C ex) ifs tt)(hi2:∀cl s H C ex,EI (aP X scope cl (own++fr) s H C ex) tg2 iter2 wi2)(hg2:∀cl s H C ex,EG (aP X scope cl (own++fr) s H C ex) tg2 g2)(ht2:∀cl s H C ex,ETs (aP X scope cl (own++fr) s H C ex) ifs2 tt2)(he:∀cl s H C ex,EE (aP X scope cl (own++fr) s H C ex) elt we)(hsw:swapsWith (.ListComp elt [⟨tg,iter,ifs,0⟩,⟨tg2,iter2,ifs2,0⟩] scope pos) (some (.Name y py)) spos.line X.env=pure true:=by rfl)(hsc:X.env.scope=sc:=by rfl)(hps:ps.map (fun i=>X.N[i]?)=fr.map some:=by rfl)(hc:X.calm=true:=by rfl)(hs:∀x,foldedSetIterable iter X.env x=pure x:=by intro _;rfl)(hs2:∀cl C x,foldedSetIterable iter2 (compEnvC scope cl C X.env) x=pure x:=by intro _ _ _;rfl):ES X (.Assign [.Name y py] (.ListComp elt [⟨tg,iter,ifs,0⟩,⟨tg2,iter2,ifs2,0⟩] scope pos) spos) (wSet i (qV wi own ps g tt wi2 g2 tt2 we)):=⟨yF S hN hy hlc hi.h (fun cl s H C ex=>(hg cl s H C ex).h) (fun cl s H C ex=>(ht cl s H C ex).h) (fun cl s H C ex=>(hi2 cl s H C ex).h) (fun cl s H C ex=>(hg2 cl s H C ex).h) (fun cl s H C ex=>(ht2 cl s H C ex).h) (fun cl s H C ex=>(he cl s H C ex).h) hsw hsc hps hc hs hs2⟩
end
section
variable {X:Cx}
theorem ab{a b:Expr}{wa wb:WE}(ha:EE X a wa)(hb:EE X b wb)(hs:p8 b:=by intro _ _;rfl):EE X (.Subscript a b pos) (wBin lq wa wb):=⟨Ju ha.h hb.h hs⟩
end
section
variable {X:Cx}{o a b c e:Expr}{es:List Expr}{wo wa wb wc we wi:WE}{ws:WA}{pos apos cpos:Pos}
theorem iX{name:Str}{id:String}{ob:WM}(slot:Slot "list" name id)(hty:typeOf (.builtin id)=pure (.type "method_descriptor"))(hm:MtM X id (mM X.kx ob))(ho:EE X o wo)(ha:EA X (e::es) ws)(hbase:attributeBase o name X.env (eval o X.env)=eval o X.env:=by rfl)(hfew:((backTo cpos (starEach (e::es) X.env)).all (fun x=>!x.1)&&(backToKw cpos (keywordEach [] X.env)).all (fun x=>x.1.isSome)
   && decide ((e::es).length+([]:List Keyword).length+(if ([]:List Keyword).isEmpty then 0 else 1)<30))=true:=by rfl) (hline:(apos.endLine==cpos.line)=true:=by rfl) (hs:starEach (e::es) X.env=(false,eval e X.env)::starEach es X.env:=by first|exact aV rfl|rfl) (hplain:(backTo cpos (starEach es X.env)).any (·.1)=false:=by rfl):EE X (.Call (.Attribute o name apos) (e::es) [] cpos) (wML ob wo ws):=⟨JK slot hty hm ho.h ha.h hbase hfew hline hs hplain⟩
theorem l9{b i:Expr}(he:EE X e we)(ho:EE X b wo)(hi:EE X i wi)(hs:swapsWithSole [.Subscript b i pos'] e pos.line X.env=pure false:=by rfl)(hw:swappedStores [.Subscript b i pos'] e X.env=pure none:=by rfl)(h1:(assignEach [.Subscript b i pos'] X.env).map (·.2)=[assign (.Subscript b i pos') X.env]:=by rfl)(ha:∀v,assign (.Subscript b i pos') X.env v=(do
   let ov <- holding [v] (eval b X.env)
   let iv <- holding [v,ov] (eval i X.env)
   standAt pos'
   holding [v,ov,iv] (setItem ov iv v)
   release [v,ov,iv] []):=by intro _;rfl):ES X (.Assign [.Subscript b i pos'] e pos) (DF we wo wi):=⟨BC he.h ho.h hi.h hs hw h1 ha⟩
theorem cY  : EO X none pF:=⟨BI⟩
theorem c6(he:EE X e we):EO X (some e) (C8 we):=⟨Ca he.h⟩
theorem cu{p2:Pos}(hr:SlR X (sM X.kx ob))(he:EE X e we)(hl:EO X lo wl)(hu:EO X hi wh):EE X (.Subscript e (.Slice lo hi none p2) pos) (wSl ob we wl wh):=⟨yc hr he.h hl.h hu.h⟩
end
section
variable {X:Cx}{a:Expr}{es:List Expr}{ws:WA}{pos p:Pos}{k n:Nat}{sp:SpM}{x:Str}
theorem mf'(F:FnM X.prog X.w X.K X.mg X.base x k n sp)(hr:Room k X.A)(ha:EA X (a::es) ws)(hg:Gl X x:=by rfl)(hdb:(x==("__debug__" : Str))=false:=by decide)(he:starEach (a::es) X.env=(false,eval a X.env)::starEach es X.env:=by first|exact aV rfl|rfl)(hpl:(backTo pos (starEach es X.env)).any (·.1)=false:=by rfl):EE X (.Call (.Name x p) (a::es) [] pos) (o9 sp ws):=⟨ym F hr ha.h hg hdb he hpl⟩
end
theorem aQ{P:Program}{w:World}{K:PySem.W.Frag}{base:Heap}{k:Nat}(D:DefM K mg x st ps)(S:au N ps (ad st))(hn:ps.length=n)(hN:N.length=nN)(hle:n≤nN)(ar:∀as Kc,sp as Kc->as.length=n)
  (hbody:∀(cdv:Value) (A:Around) (outer:List Env) (s:Shared) (H:Hp) (E:XK) (f:Addr),Room k (A.deeper (envOfC x (ad st) s.heap.objs.size f cdv)) ->
   ∃ww,ESs (cxOf CX0 P w K mg base N x (ad st) f cdv A outer s H E).nox (dE st) ww/\∀as Kc,as.length=n->sp as Kc->ww {nx:=fun m=>Kc (.imm .none) (m.os.take m.np),rt:=fun r m=>retK Kc m r} (h9 nN as)) :
  FnM P w K mg base x (k+1) n sp:=J6 D S hn hN hle ar fun cdv A outer s H E f hr=>let ⟨ww,h1,h2⟩:=hbody cdv A outer s H E f hr;⟨ww,h1.h,h2⟩
theorem Dm{P:Program}{w:World}{K:PySem.W.Frag}{base:Heap}{k:Nat}(F:Fun K x x st f fd)(S:au N ps (ad st))(hn:ps.length=n)(hN:N.length=nN)(hle:n≤nN)
  (hbody:∀(cdv:Value) (A:Around) (outer:List Env) (s:Shared) (H:Hp) (E:XK) (f:Addr),Room k (A.deeper (envOfC x (ad st) s.heap.objs.size f cdv)) ->
   ∃ww,ESs (cxOf CX0 P w K mg base N x (ad st) f cdv A outer s H E).nox (dE st) ww/\∀as Kc,as.length=n->sp as Kc->ww {nx:=fun m=>Kc (.imm .none) (m.os.take m.np),rt:=fun r m=>retK Kc m r} (h9 nN as)) :
  FnOk P w K mg base CX0 (k+1) f fd ps (spOf ⟨K,w⟩ n sp):=GY F S hn hN hle fun cdv A outer s H E f hr=>let ⟨ww,h1,h2⟩:=hbody cdv A outer s H E f hr;⟨ww,h1.h,h2⟩
end L2
namespace HT
open PySem PySem.Spec PyProof.Rows
section
variable {prog:Program}{w:World}{A:Around}{E:Value->Shared->Prop}{s:Shared}
theorem cut_whole{t sl:Addr}{items:Array Value}{vl vu:Value}{lo hi:Option Int}{Q:Value->Shared->Prop}(ht:IsTup s.heap t items)(hs:s.heap.IsSliceOf sl vl vu .none)(pl:IsPart vl lo)(pu:IsPart vu hi)
  (hw:sIx items.size 0 lo=0/\sIx items.size items.size hi=items.size) (h:Q (.ref t) s):wpAny (model prog w) A (getItem (.ref t) (.ref sl)) Q E s:=by
 obtain⟨os,hos,hcs,hds⟩:=id hs;have hTs:s.TypeIs (.ref sl) "slice" :=⟨os,hos,hcs⟩;unfold getItem
 try with_reducible refine wpAny_holding ?_
 first|(refine wpAny_bind (wpAny_pure ?_))|skip
 refine wpAny_bind (wpAny_sequenceKey ht.typeIs (by decide) (wpAny_bind (wpAny_callSpecial?_slot (name:=Str.ofString "__getitem__") ht.typeIs PyProof.Rows.slot_tuple_getitem (wpAny_call_entry PyProof.Rows.slot_tuple_getitem ht.typeIs entry_tuple_getitem ?_ (args_tuple_getitem _ _)))));show wpAny _ _ (Builtin.Tuple.tupleItemsOf (.ref t) >>= _) _ _ s;refine wpAny_bind (tupleItemsOf_ ht (wpAny_bind (wpAny_typeOf hTs ?_)));rw[if_pos (by decide)];refine wpAny_bind (fe hs pl pu ?_);have hyes:(((sIx items.size 0 lo:Nat):Int)==0&&(1:Int)==1&&(sIx items.size items.size hi-sIx items.size 0 lo)==items.size)=true:=by
  rw[hw.1,hw.2];simp
 show wpAny _ _ (if (((sIx items.size 0 lo:Nat):Int)==0&&(1:Int)==1&&(sIx items.size items.size hi-sIx items.size 0 lo)==items.size)=true then _ else _) _ _ s;rw[if_pos hyes];refine wpAny_bind ?_;unfold Builtin.Tuple.tupleIsExact;refine wpAny_bind (wpAny_typeOf ht.typeIs (wpAny_pure ?_));rw[if_pos (by rfl)];exact wpAny_bind (wpAny_rule (wpAny_pure ⟨_,rfl,wpAny_pure h⟩))
end
end HT
namespace L2
open PySem PySem.Spec PyProof.Rows
variable{hi lo:Option Int}{Kr:R->Prop}{ds es:List PyData}{K:R->MSt->Prop}{X:Cx}{pins:List (Addr×Obj)}{σ:St}{H:Hp}{h h':Heap}{t t1 t2:Bool}{a b i1 i2 it l l1 l2 z:Addr}{i n:Nat}{items its xs ys:Array Value}{Q:Value->Shared->Prop}{f:Value}{elts:List Expr}
section
variable {X:Cx}
def oCut:R->Option Int->Option Int->MSt->(R->Prop)->Prop:=fun r lo hi m K=>(∃ds,lsOf m r=some ds/\K (.new (cutD ds lo hi)))\/∃ds,r = .imm (.tuple ds)/\K (.imm (.tuple (cutD ds lo hi)))
theorem dY:SlR X (sM X.kx oCut):=by
 intro pins s σ' H x v vl vu lo hi sl Q I rx hs pl pu hq;obtain⟨α,m,σ,H0,r,Kc,Rl,h,k|⟨ds,rfl,k⟩,fin⟩:=hq
 .exact yy pins s σ' H x v vl vu lo hi sl Q I rx hs pl pu ⟨α,m,σ,H0,r,Kc,Rl,h,k,fin⟩
 .obtain⟨a,xs,rfl,f,g⟩:=bA (show Den X.kx H (.tuple ds) x from h)
  by_cases hw:HT.sIx xs.length 0 lo=0/\HT.sIx xs.length xs.length hi=xs.length
  .cases rx;obtain⟨its,rv,ht,hz⟩:=I.tuple f;have hlen:its.toArray.size=xs.length:=by rw[List.size_toArray];exact rv.length.symm
   refine⟨"tuple",_,PyProof.Rows.slot_tuple_getitem.lookup,ht.typeIs,?_⟩;refine HT.cut_whole ht hs pl pu (by rw[hlen];exact hw) ⟨.ref a,H,I,rfl,fin _ _ H k Rl (ko (dg f ?_)) (Frm.refl _ _)⟩;have e:cutD ds lo hi=ds:=by
    unfold cutD;rw[g.length,hw.1,hw.2,List.drop_zero,Nat.sub_zero,<-g.length,List.take_length]
   rw[e];exact g
  .exact Iu pins s σ' H _ v vl vu lo hi sl Q I rx hs pl pu ⟨a,xs,rfl,f,hw,fun p hp=>fin _ _ _ k (Rl.lay hp) (ko (dg (SqT.of aC) ((uG g lo hi).mono (bx (.inl hp))))) (cW hp)⟩
theorem CW{m:MSt}{r:R}(e:lsOf m r=some ds)(h:Kr (.new (cutD ds lo hi))):oCut r lo hi m Kr:=.inl ⟨ds,e,h⟩
theorem FB{m:MSt}(h:Kr (.imm (.tuple (cutD ds lo hi)))):oCut (.imm (.tuple ds)) lo hi m Kr:=.inr ⟨ds,rfl,h⟩
theorem j4(n:Nat):cutD ds none (some (n:Int))=ds.take n:=by
 unfold cutD;rw[HT.sIx_none,HT.sIx_nat,Nat.sub_zero,List.drop_zero]
 by_cases h:n≤ds.length
 .rw[Nat.min_eq_left h]
 .rw[Nat.min_eq_right (by omega),List.take_length,List.take_of_length_le (by omega)]
theorem jT(n:Nat):cutD ds (some (n:Int)) none=ds.drop n:=by
 unfold cutD;rw[HT.sIx_none,HT.sIx_nat]
 by_cases h:n≤ds.length
 .rw[Nat.min_eq_left h,List.take_of_length_le (by rw[List.length_drop];omega)]
 .rw[Nat.min_eq_right (by omega),List.drop_length,List.drop_eq_nil_of_le (by omega),List.take_nil]
def oIn(neg:Bool):WO:=fun r1 r2 m K=>∃d ds,asD m r1=some d/\(asD m r2=some (.list ds)\/asD m r2=some (.tuple ds))/\d.canLay0=true/\PyData.canLayAll0 ds=true/\d.depth≤60/\K (.imm (.bool (if neg then !ds.any (fun y=>PyData.eqv y d)else ds.any fun y=>PyData.eqv y d)))
theorem kh(hu:X.A.units+64<cLine):OpR X (compareOp .NotIn) (rM X.kx (oIn true)):=by
 rintro pins s σ' H x y v u Q I rx ry ⟨α,m,σ,H0,H1,r1,r2,Kc,Rl,h1,h2,⟨d,ds,e1,e2,c1,c2,dp,ho⟩,fin⟩;obtain⟨as,q1⟩:=h1.reads I Rl rx e1 (PyData.hasDict_of_canLay _ c1);have fin':EP X pins σ' Q (.bool (!ds.any fun y=>PyData.eqv y d)) s:=⟨.bl _,H,I,rfl,fin _ _ H ho Rl (lQ _) (Frm.refl _ _)⟩;have hm:X.A.units+1+min (PyData.depthAll ds) d.depth<cLine:=by have:=Nat.min_le_right (PyData.depthAll ds) d.depth;omega
 rcases e2 with e2|e2
 .obtain⟨bs,q2⟩:=h2.reads I Rl ry e2 (by simp only[PyData.hasDict];exact PyData.hasDictAll_of_canLayAll _ c2);exact SeqAt.notIn_list_reads q2 q1 c2 c1 hm fin'
 .obtain⟨bs,q2⟩:=h2.reads I Rl ry e2 (by simp only[PyData.hasDict];exact PyData.hasDictAll_of_canLayAll _ c2);exact SeqAt.notIn_tuple_reads q2 q1 c2 c1 hm fin'
theorem x_in{m:MSt}{r1 r2:R}{neg:Bool}{d:PyData}{k k':Nat}(e1:asD m r1=some d)(e2:asD m r2=some (.list ds)\/asD m r2=some (.tuple ds))(s1:Shp k d)(s2:∀y∈ds,Shp k' y)(hk:k≤60)(h:Kr (.imm (.bool (if neg then !ds.any (fun y=>PyData.eqv y d)else ds.any fun y=>PyData.eqv y d)))):oIn neg r1 r2 m Kr :=
 ⟨d,ds,e1,e2,s1.cl,(jU s2).1,Nat.le_trans s1.dp hk,h⟩
def Lg(P:List PyData->Prop):R->Prop
 | .new ds=>P ds
 |_=>False
def v9:WM:=fun r rs m K=>p9 (fun k=>on1 (Lg fun es=>∃ds,m.os[k]?=some ds/\ds.length+es.length≤sizeLine/\K (.imm .none) {m with os:=m.os.set k (ds++es)}) rs) r
theorem kw:MtM X "list.extend" (mM X.kx v9):=by
 rintro pins s σ' H x xs v us Q I rx rv ⟨α,m,σ,H0,H1,r,rs,Kc,Rl,h1,h2,ho,fin⟩;obtain⟨k,a,rfl,ea,rfl,ho⟩:=wM h1 ho;obtain⟨r2,v2,rfl,rfl,h2,ho⟩:=dy h2 ho
 cases r2 with
 |imm _=>exact ho.elim
 |obj _=>exact ho.elim
 | «at» _ _=>exact ho.elim
 |newT _=>exact ho.elim
 |new es =>
  obtain⟨ds,e1,hz,ho⟩:=ho;obtain⟨b,zs,rfl,hb0,hb,gb⟩:=h2;obtain⟨ys,q,g⟩:=Rl.own _ _ ds ea e1;obtain⟨R2,F2⟩:=Rl.setO ea q (g.append gb);exact wY pins s σ' H _ _ v us Q I rx rv ⟨a,b,ys,zs,rfl,rfl,q,hb,by rw[<-g.length,<-gb.length];exact hz,fin _ _ _ _ ho rfl R2 w6 F2⟩
theorem xQ{m:MSt}{k:Nat}(e:m.os[k]?=some ds)(hz:ds.length+es.length≤sizeLine)(h:K (.imm .none) {m with os:=m.os.set k (ds++es)}):v9 (.obj k) [.new es] m K:=⟨ds,e,hz,h⟩
def zR:WM:=fun r rs m K=>on1 (cX fun d=>∃ds j,lsOf m r=some ds/\d.canLay0=true/\PyData.canLayAll0 ds=true/\d.depth≤60/\(∃y,ds[j]?=some y/\PyData.eqv y d=true)/\(∀(i:Nat) y,i<j->ds[i]?=some y->PyData.eqv y d=false)/\K (.imm (.int (j:Nat))) m) rs
theorem uc(hu:X.A.units+64<cLine):MtM X "list.index" (mM X.kx zR):=by
 rintro pins s σ' H x xs v us Q I rx rv ⟨α,m,σ,H0,H1,r,rs,Kc,Rl,h1,h2,ho,fin⟩;obtain⟨r2,v2,rfl,rfl,h2,ho⟩:=dy h2 ho;obtain⟨d,rfl,hd,ds,j,el,c1,c2,dp,⟨y,ey,eq⟩,hno,ho⟩:=dU h2 ho;obtain⟨a,zs,rfl,f,g⟩:=h1.list Rl el;cases rx;obtain⟨u,rfl,ru⟩:=rv.one;obtain⟨bs,qd⟩:=Den.reads I (PyData.hasDict_of_canLay _ c1) hd ru;obtain⟨its,rvv,pl,hz⟩:=I.list f;obtain⟨o,n,ho1,hc,hdict⟩:=pl;obtain⟨as,rds⟩:=DenAll.reads I (PyData.hasDictAll_of_canLayAll _ c2) g rvv;have hm:X.A.units+1+min (PyData.depthAll ds) d.depth<cLine:=by have:=Nat.min_le_right (PyData.depthAll ds) d.depth;omega
 have hmap:=SeqAt.readsAll_map ds _ _ c2 rds;have hl:its.length=ds.length:=by rw[<-hmap,List.length_map]
 have hj:j<its.length:=by rw[hl];exact(List.getElem?_eq_some_iff.mp ey).1
 have ro:∀(i:Nat) (hi:i<its.length) y,ds[i]?=some y->SeqAt.readOf s.heap its[i]=y:=fun i hi y e=>by
  rw[<-hmap,List.getElem?_map,List.getElem?_eq_getElem hi]at e;exact Option.some.inj e
 obtain⟨cls,dd,data,sl⟩:=o;obtain⟨hdict,hdata⟩:=hdict;dsimp only at hc hdata;subst hc;subst hdata;have hsm:(j:Int)<2^63-1:=by
  have h16:=hz;rw[sizeLine_eq]at h16;have:=rvv.length;omega
 refine call_meets PySem.F.slot_list_index ⟨_,ho1,rfl⟩ PySem.F.entry_list_index (PySem.F.args_list_index_2 _ _)
  (SeqAt.list_indexAt a its.toArray _ dd sl u (fun y=>PyData.eqv (SeqAt.readOf s.heap y) d) j (by simpa using hj) hsm ?_ ?_) ⟨ho1,SeqAt.items_eqAt (by simpa using rds) qd c2 c1 hm,?_⟩
 .show PyData.eqv (SeqAt.readOf s.heap its[j]) d=true;rw[ro j hj y ey];exact eq
 .intro i hi hlt;have hi':i<its.length:=by simpa using hi
  show PyData.eqv (SeqAt.readOf s.heap its[i]) d=false;have hi2:i<ds.length:=by rw[<-hl];exact hi'
  rw[ro i hi' _ (List.getElem?_eq_getElem hi2)];exact hno i _ hlt (List.getElem?_eq_getElem hi2)
 .exact⟨.int (j:Nat),H,I.tok _,⟨_,rfl⟩,fin _ _ _ H ho rfl Rl (di _) (Frm.refl _ _)⟩
theorem BA{m:MSt}{r:R}{d y:PyData}{j k k':Nat}(e:lsOf m r=some ds)(s1:Shp k d)(s2:∀y∈ds,Shp k' y)(hk:k≤60)(ey:ds[j]?=some y)(eq:PyData.eqv y d=true)(hno:∀(i:Nat) y,i<j->ds[i]?=some y->PyData.eqv y d=false)(h:K (.imm (.int (j:Nat))) m):zR r [.imm d] m K :=
 ⟨ds,j,e,s1.cl,(jU s2).1,Nat.le_trans s1.dp hk,⟨y,ey,eq⟩,hno,h⟩
end
theorem Inv.turneds{s:Shared}{t':Nat}{ch:List Addr}(I:Inv X pins σ H s)(k:∀b o,b∉ch->s.heap.get? b=some o->h'.get? b=some o)(hf:∀b∈ch,FpOk X pins H b):Inv X pins σ H {s with heap:=h',toks:=t' }:=by
 have nit:∀b u,H b=some u->b∉ch:=fun b u e z=>by have:=(hf b z).1;rw[this]at e;cases e
 have nl:X.env.locals∉ch:=fun z=>(hf _ z).2.1 rfl;refine I.step (g':=s.gens) (d':=s.drawn) (ch:=ch) (fun b hb=>?_) (fun b o _ _ hc e _=>k b o hc e) (fun b o _ _ hc e _=>⟨o.slots,k b o hc e⟩) (fun _ _ _ _ n=>n)
  (fun b o hc e=>⟨o,k b o hc e⟩) (fun _ _ e=>e) (fun _ _ _ e=>e) (fun b ps e=>⟨#[],by rw[e];simp⟩) (fun m hm=>?_) (fun b u e=>?_) I.bare
 .obtain⟨_,f1,_,f3,f4,f5⟩:=hf b hb;exact⟨f3,f1,f4,f5⟩
 .obtain⟨o,es,ep,ho,r⟩:=hm;exact⟨o,es,ep,k _ o nl ho,r⟩
 .refine(I.hok b u e).stay (fun c v hc q=>k c v ?_ q) (fun _ q=>q) fun _ _ q=>q;rcases hc with z|z
  .rw[z];exact nit b u e
  .exact nit c _ z
def SubI(t:Bool)(h:Heap)(i l:Addr)(k:Nat):Prop:=if t then h.IsTupleIter i l k else h.IsListIter i l k
def SubS(t:Bool)(h:Heap)(l:Addr)(its:Array Value):Prop:=if t then h.IsTuple l its else h.IsList l its
theorem SubI.ext{i:Addr}{k:Nat}(x:SubI t h i l k)(e:Heap.ExtBut b h h')(n:i≠b):SubI t h' i l k:=by
 cases t
 .exact Heap.IsListIter.extBut (show h.IsListIter i l k from x) e n
 .exact Heap.IsTupleIter.extBut (show h.IsTupleIter i l k from x) e n
theorem SubI.obj{i:Addr}{k:Nat}(x:SubI t h i l k):∃o vs,h.get? i=some o/\o.data = .fields vs:=by
 cases t
 .obtain⟨o,e,_,d⟩:=(show h.IsListIter i l k from x);exact⟨o,_,e,d⟩
 .obtain⟨o,e,_,d⟩:=(show h.IsTupleIter i l k from x);exact⟨o,_,e,d⟩
theorem SubI.keep{i:Addr}{k:Nat}(x:SubI t h i l k)(e:∀o,h.get? i=some o->h'.get? i=some o):SubI t h' i l k:=by
 cases t
 .obtain⟨o,q,r⟩:=(show h.IsListIter i l k from x);exact⟨o,e o q,r⟩
 .obtain⟨o,q,r⟩:=(show h.IsTupleIter i l k from x);exact⟨o,e o q,r⟩
theorem SubS.keep(x:SubS t h l its)(e:∀o,h.get? l=some o->h'.get? l=some o):SubS t h' l its:=by
 cases t
 .obtain⟨o,q,r⟩:=(show h.IsList l its from x);exact⟨o,e o q,r⟩
 .obtain⟨o,q,r⟩:=(show h.IsTuple l its from x);exact⟨o,e o q,r⟩
theorem SubS.ext(x:SubS t h l its)(e:Heap.ExtBut b h h')(n:l≠b):SubS t h' l its:=x.keep fun o q=>e l o n q
section
variable {prog:Program}{w:World}{A:Around}{E:Value->Shared->Prop}{s:Shared}
theorem lA{α:Type}{Q:α->Shared->Prop}(hh:A.handled=none)(h:∀h' e,(∀b o,s.heap.get? b=some o->h'.get? b=some o)->(∃o,h'.get? e=some o/\o.cls = .type "StopIteration")->E (.ref e) {s with heap:=h' }) :
  wpAny (model prog w) A (do raiseNew (<- newExc (.type "StopIteration") []):Sem α) Q E s:=by
 refine wpAny_bind (m:=newExc (.type "StopIteration") []) ?_;refine wpAny_bind (m:=newTuple []) (wpAny_newObj_type ?_ (by size_fits));refine wpAny_bind (m:=firstArgMember (.type "StopIteration") []) (wpAny_of_eq (a:=Value.none) (by rfl) (wpAny_newObj_type ?_ (by size_fits)));refine wpAny_bind (m:=handled) (wpAny_handled ?_);rw[hh];refine wpAny_bind (wpAny_pure (wpAny_throw (h _ _ (fun b o q=>Heap.get?_push_of_some _ (Heap.get?_push_of_some _ q)) ⟨_,Heap.get?_push_size _ rfl,rfl⟩)))
theorem JS(hit:s.heap.IsTupleIter it l i)(h:Q (.ref l) s):wpAny (model prog w) A (field (.ref it) 0) Q E s:=let ⟨_,ho,_,hd⟩:=hit;wpAny_field ho hd (x:=.ref l) rfl h
theorem Jv(hit:s.heap.IsTupleIter it l i)(h:Q (.int i 0) s):wpAny (model prog w) A (field (.ref it) 1) Q E s:=let ⟨_,ho,_,hd⟩:=hit;wpAny_field ho hd (x:=.int i 0) rfl h
theorem Lj{Q:Option (Array Value)->Shared->Prop}(hl:s.heap.IsTuple l items)(h:Q (some items) s):wpAny (model prog w) A (seqItems? (.ref l)) Q E s:=let ⟨_,ho,_,_,hd⟩:=hl;wpAny_seqItems ho hd h
theorem qG{Q:Option Value->Shared->Prop}(hit:s.heap.IsTupleIter it l i)(hl:s.heap.IsTuple l items)
  (hs:∀x,items[i]?=some x->∀h',h'.IsTupleIter it l (i+1)->Heap.SameBut it s.heap h'->Q (some x) {s with heap:=h' })
  (hE:items[i]?=none->A.handled=none/\∀h' e,Heap.ExtBut it s.heap h'->(∃o,h'.get? e=some o/\o.cls = .type "StopIteration")->E (.ref e) {s with heap:=h' }) :
  wpAny (model prog w) A (callSpecial? (.ref it) "__next__" []) Q E s:=by
 refine wpAny_callSpecial?_slot (name:=Str.ofString "__next__") hit.typeIs F.slot_tuple_iterator_next (wpAny_call_entry F.slot_tuple_iterator_next hit.typeIs F.entry_tuple_iterator_next ?_ (F.args_tuple_iterator_next_1 _))
 wp_walk using JS hit,Jv hit,Lj hl
 rcases id hit with⟨o,ho,hc,hd⟩;rw[Int.toNat_natCast]
 cases q:items[i]? with
 | some x =>
  have new:(s.heap.update it (Obj.mapFields (·.setIfInBounds 1 (rawInt ((i:Int)+1))))).IsTupleIter it l (i+1):=by
   refine⟨_,Heap.get?_update_self _ ho (Obj.isFreed_of_fields (Obj.data_mapFields hd _)),?_,?_⟩
   .exact(Obj.cls_mapFields ..).trans hc
   .rw[Obj.data_mapFields hd];simp[rawInt]
  exact wpAny_bind (m:=setField (.ref it) 1 _) (wpAny_setField ho hd (by simp) (wpAny_pure ⟨x,rfl,hs x q _ new (Heap.SameBut.update ..)⟩))
 |none =>
  obtain⟨hh,hE⟩:=hE q;refine wpAny_bind (m:=rule _) (wpAny_rule (wpAny_bind (m:=setField (.ref it) 0 _) (wpAny_setField ho hd (by simp) ?_)));exact lA (A:=A.in1) hh fun h' e k x=>hE h' e (fun b ob nb z=>k b ob ((Heap.SameBut.update ..).extBut b ob nb z)) x
theorem ju{x:Value}(hit:SubI t s.heap it l i)(hl:SubS t s.heap l items)(hx:items[i]?=some x)
  (hQ:∀h',SubI t h' it l (i+1)->Heap.SameBut it s.heap h'->Q x {s with heap:=h' }):wpAny (model prog w) A (Builtin.SmallTypes.nextOf (.ref it)) Q E s:=by
 cases t with
 |false=>exact wpAny_nextOf_list_item (show s.heap.IsListIter it l i from hit) (show s.heap.IsList l items from hl) hx hQ
 |true=>exact wpAny_bind (m:=callSpecial? (.ref it) "__next__" []) (qG (show s.heap.IsTupleIter it l i from hit) (show s.heap.IsTuple l items from hl) (fun y ey h' a b=>by rw[hx]at ey;cases ey;exact wpAny_pure (hQ h' a b)) fun no=>by rw[hx]at no;cases no)
theorem pj(hh:A.handled=none)(hit:SubI t s.heap it l i)(hl:SubS t s.heap l items)(hx:items[i]?=none)
  (hE:∀h' e,Heap.ExtBut it s.heap h'->(∃o,h'.get? e=some o/\o.cls = .type "StopIteration")->E (.ref e) {s with heap:=h' }):wpAny (model prog w) A (Builtin.SmallTypes.nextOf (.ref it)) Q E s:=by
 cases t with
 |false=>exact wpAny_nextOf_list_end hh (show s.heap.IsListIter it l i from hit) (show s.heap.IsList l items from hl) hx hE
 |true=>exact wpAny_bind (m:=callSpecial? (.ref it) "__next__" []) (qG (show s.heap.IsTupleIter it l i from hit) (show s.heap.IsTuple l items from hl) (fun y ey=>by rw[hx]at ey;cases ey) fun _=>⟨hh,hE⟩)
structure Apart(z TI TO i1 i2 l1 l2:Addr):Prop where
 d:[z,TI,TO,i1,i2].Nodup
 m1:l1∉[z,TI,TO,i1,i2]
 m2:l2∉[z,TI,TO,i1,i2]
theorem Apart.old{TI TO:Addr}(D:Apart z TI TO i1 i2 l1 l2):ZipApart z TI TO i1 i2 l1 l2:=by
 obtain⟨d,m1,m2⟩:=D;simp only[List.nodup_cons,List.mem_cons,List.not_mem_nil,not_or,or_false,List.nodup_nil,and_true,not_false_eq_true]at d m1 m2;obtain⟨⟨a1,a2,a3,a4⟩,⟨b1,b2,b3⟩,⟨c1,c2⟩,d1⟩:=d;exact⟨Ne.symm a1,Ne.symm a2,Ne.symm a3,Ne.symm a4,b1,b2,b3,c1,c2,d1,m1.1,m1.2.2.1,m1.2.2.2.1,m1.2.2.2.2,m2.1,m2.2.2.1,m2.2.2.2.1,m2.2.2.2.2⟩
structure xY(t1 t2:Bool)(z TI TO i1 i2 l1 l2:Addr)(k:Nat)(h:Heap):Prop where
 z:IsZip h z TI TO .none
 ti:IsPair h TI (.ref i1) (.ref i2)
 to:∃a b,IsPair h TO a b
 s1:SubI t1 h i1 l1 k
 s2:SubI t2 h i2 l2 k
theorem zf0{TI TO:Addr}(hz:IsZip s.heap z TI TO f)(h:Q f s):wpAny (model prog w) A (field (.ref z) 0) Q E s:=wpAny_field hz rfl (x:=f) rfl h
theorem zf2{TI TO:Addr}(hz:IsZip s.heap z TI TO f)(h:Q (.bool false) s):wpAny (model prog w) A (field (.ref z) 2) Q E s:=wpAny_field hz rfl (x:=.bool false) rfl h
theorem zf3{TI TO:Addr}(hz:IsZip s.heap z TI TO f)(h:Q (.ref TI) s):wpAny (model prog w) A (field (.ref z) 3) Q E s:=wpAny_field hz rfl (x:=.ref TI) rfl h
theorem yE{TI TO:Addr}{k:Nat}{x y:Value}{Q:Option Value->Shared->Prop}(D0:Apart z TI TO i1 i2 l1 l2)(Z:xY t1 t2 z TI TO i1 i2 l1 l2 k s.heap)
  (hl1:SubS t1 s.heap l1 xs) (hl2:SubS t2 s.heap l2 ys) (hx:xs[k]?=some x) (hy:ys[k]?=some y)
  (hQ:∀h',IsZip h' z TI TO (rawInt s.heap.objs.size)->IsPair h' TO x y->SubI t1 h' i1 l1 (k+1)->SubI t2 h' i2 l2 (k+1)->IsPair h' s.heap.objs.size x y->h'.objs.size=s.heap.objs.size+1 ->
   (∀c o,c∉[z,TO,i1,i2]->s.heap.get? c=some o->h'.get? c=some o)->Q (some (.ref s.heap.objs.size)) {s with heap:=h' }):wpAny (model prog w) A (pyNext (.ref z)) Q E s:=by
 have D:=D0.old;obtain⟨hz,hTI,⟨a,b,hTO⟩,h1,h2⟩:=Z;have hT:s.TypeIs (.ref z) "zip" :=(⟨_,hz,rfl⟩);unfold pyNext;refine wpAny_bind (wpAny_attempt (wpAny_callSpecial?_slot (name:=Str.ofString "__next__") hT F.slot_zip_next (wpAny_call_entry F.slot_zip_next hT F.entry_zip_next ?_ (F.args_zip_next_1 _))));refine wpAny_bind (m:=field (.ref z) 2) (zf2 hz (wpAny_bind (m:=field (.ref z) 3) (zf3 hz (wpAny_bind (wpAny_seqItems hTI rfl ?_)))));refine wpAny_bind (m:=Builtin.SmallTypes.ownedTupleIsFree (.ref z)) (wpAny_bind (m:=field (.ref z) 0) (zf0 hz (wpAny_pure ?_)));simp only[if_true];refine wpAny_bind (wpAny_rule (wpAny_bind (wpAny_field hz rfl (x:=.ref TO) rfl (wpAny_bind (wpAny_setField_rec hz (by simp) fun g1 hz1 s1=>?_)))));replace hz1:IsZip g1 z TI TO .ellipsis:=hz1;refine wpAny_bind ?_;simp only[List.forIn_cons,List.forIn_nil,List.zipIdx_cons,List.zipIdx_nil];refine wpAny_bind (wpAny_bind (wpAny_onRaise (wpAny_bind (m:=Builtin.SmallTypes.nextOf (.ref i1)) ?_)));refine(ju (h1.ext s1.extBut D.i1z) (hl1.ext s1.extBut D.l1z) hx fun g2 n1 s2=>wpAny_pure ?_);have hTO2:IsPair g2 TO a b:=s2.extBut _ _ D.TOi1 (s1.extBut _ _ D.TOz hTO);refine wpAny_bind (wpAny_seqItems hTO2 rfl (wpAny_bind (wpAny_updateSeq_pair hTO2 fun g3 hTO3 s3=>?_)));replace hTO3:IsPair g3 TO x b:=hTO3;refine wpAny_bind (wpAny_letGo (wpAny_pure (wpAny_bind (wpAny_bind (wpAny_onRaise ?_)))));refine wpAny_bind (m:=Builtin.SmallTypes.nextOf (.ref i2)) (ju (((h2.ext s1.extBut D.i2z).ext s2.extBut D.i12.symm).ext s3.extBut D.TOi2.symm) (((hl2.ext s1.extBut D.l2z).ext s2.extBut D.l2i1).ext s3.extBut D.l2TO) hy fun g4 n2 s4=>wpAny_pure ?_);have hTO4:IsPair g4 TO x b:=s4.extBut _ _ D.TOi2 hTO3;refine wpAny_bind (wpAny_seqItems hTO4 rfl (wpAny_bind (wpAny_updateSeq_pair hTO4 fun g5 hTO5 s5=>?_)));replace hTO5:IsPair g5 TO x y:=hTO5;refine wpAny_bind (wpAny_letGo (wpAny_pure (wpAny_pure (wpAny_bind (wpAny_seqItems hTO5 rfl (wpAny_bind (wpAny_newTuple ?_)))))));have hsz:g5.objs.size=s.heap.objs.size:=by rw[s5.1,s4.1,s3.1,s2.1,s1.1]
 have hz5:IsZip g5 z TI TO .ellipsis:=s5.extBut _ _ D.TOz.symm (s4.extBut _ _ D.i2z.symm (s3.extBut _ _ D.TOz.symm (s2.extBut _ _ D.i1z.symm hz1)));have k5:∀c o,c∉[z,TO,i1,i2]->s.heap.get? c=some o->g5.get? c=some o:=fun c o hc e=>by
  simp only[List.mem_cons,List.not_mem_nil,not_or,or_false]at hc;exact s5.extBut _ _ hc.2.1 (s4.extBut _ _ hc.2.2.2 (s3.extBut _ _ hc.2.1 (s2.extBut _ _ hc.2.2.1 (s1.extBut _ _ hc.1 e))))
 have n15:SubI t1 g5 i1 l1 (k+1):=((n1.ext s3.extBut D.TOi1.symm).ext s4.extBut D.i12).ext s5.extBut D.TOi1.symm;have n25:SubI t2 g5 i2 l2 (k+1):=n2.ext s5.extBut D.TOi2.symm;have zlt:z<g5.objs.size:=Heap.lt_size hz5;refine wpAny_bind (m:=Builtin.SmallTypes.ownedTupleHandOut (.ref z) (.ref g5.objs.size)) ?_;have hz6:IsZip (g5.push {cls:=.type "tuple",data:=.seq #[x,y]}) z TI TO .ellipsis:=Heap.get?_push_of_some _ hz5;refine wpAny_bind (m:=setField (.ref z) 0 _) (wpAny_setField_rec hz6 (by simp) fun g7 hz7 s7=>?_);replace hz7:IsZip g7 z TI TO (rawInt g5.objs.size):=hz7;refine wpAny_setField_rec hz7 (by simp) fun g8 hz8 s8=>?_;replace hz8:IsZip g8 z TI TO (rawInt g5.objs.size):=hz8;have up:∀c o,c≠z->g5.get? c=some o->g8.get? c=some o:=fun c o c1 e=>s8.extBut _ _ c1 (s7.extBut _ _ c1 (Heap.get?_push_of_some _ e));have hT8:IsPair g8 g5.objs.size x y:=s8.extBut _ _ (Nat.ne_of_gt zlt) (s7.extBut _ _ (Nat.ne_of_gt zlt) (Heap.get?_push_size _ rfl));have z8:g8.objs.size=g5.objs.size+1:=by rw[s8.1,s7.1,Heap.size_push]
 rw[hsz]at hz8 hT8 z8;have fin:wpAny (model prog w) A (pure (some (Value.ref g5.objs.size))) Q E {s with heap:=g8}:=by
  rw[hsz];exact wpAny_pure (hQ g8 hz8 (up _ _ D.TOz hTO5) (n15.keep fun o e=>up _ o D.i1z e) (n25.keep fun o e=>up _ o D.i2z e) hT8 z8 fun c o hc e=>up c o (fun q=>hc (by simp[q])) (k5 c o hc e))
 exact wpAny_pure ⟨_,rfl,fin⟩
theorem AD{TI TO:Addr}{k:Nat}{Q:Option Value->Shared->Prop}(hh:A.handled=none)(D0:Apart z TI TO i1 i2 l1 l2)(Z:xY t1 t2 z TI TO i1 i2 l1 l2 k s.heap)
  (hl1:SubS t1 s.heap l1 xs) (hl2:SubS t2 s.heap l2 ys) (hend:xs[k]?=none\/ys[k]?=none)
  (hQ:∀h',(∀c o,c∉[z,TO,i1,i2]->s.heap.get? c=some o->h'.get? c=some o)->Q none {s with heap:=h' }):wpAny (model prog w) A (pyNext (.ref z)) Q E s:=by
 have D:=D0.old;obtain⟨hz,hTI,⟨a,b,hTO⟩,h1,h2⟩:=Z;have hT:s.TypeIs (.ref z) "zip" :=(⟨_,hz,rfl⟩);have out:∀{c:Addr},c∉[z,TO,i1,i2]->c≠z/\c≠TO/\c≠i1/\c≠i2:=fun hc=>by simpa only[List.mem_cons,List.not_mem_nil,not_or,or_false]using hc
 have fin:∀h' e,(∀c o,c∉[z,TO,i1,i2]->s.heap.get? c=some o->h'.get? c=some o)->(∃o,h'.get? e=some o/\o.cls = .type "StopIteration") ->
   wpAny (model prog w) A (do if <- isInstance (.ref e) (.type "StopIteration")then pure none else throw (.ref e):Sem (Option Value)) Q E {s with heap:=h' }:=fun h' e hk ⟨o,ho,hc⟩ =>
  wpAny_bind (wpAny_isInstance (T := "StopIteration") (b:=true) ⟨o,ho,hc⟩ isSubtype_stop (wpAny_pure (hQ _ hk)))
 unfold pyNext;refine wpAny_bind (wpAny_attempt (wpAny_callSpecial?_slot (name:=Str.ofString "__next__") hT F.slot_zip_next (wpAny_call_entry F.slot_zip_next hT F.entry_zip_next ?_ (F.args_zip_next_1 _))));refine wpAny_bind (m:=field (.ref z) 2) (zf2 hz (wpAny_bind (m:=field (.ref z) 3) (zf3 hz (wpAny_bind (wpAny_seqItems hTI rfl ?_)))));refine wpAny_bind (m:=Builtin.SmallTypes.ownedTupleIsFree (.ref z)) (wpAny_bind (m:=field (.ref z) 0) (zf0 hz (wpAny_pure ?_)));simp only[if_true];refine wpAny_bind (wpAny_rule (wpAny_bind (wpAny_field hz rfl (x:=.ref TO) rfl (wpAny_bind (wpAny_setField_rec hz (by simp) fun g1 hz1 s1=>?_)))));replace hz1:IsZip g1 z TI TO .ellipsis:=hz1;refine wpAny_bind ?_;simp only[List.forIn_cons,List.forIn_nil,List.zipIdx_cons,List.zipIdx_nil];refine wpAny_bind (wpAny_bind (wpAny_onRaise (wpAny_bind (m:=Builtin.SmallTypes.nextOf (.ref i1)) ?_)))
 cases hx:xs[k]? with
 |none =>
  refine(pj hh (h1.ext s1.extBut D.i1z) (hl1.ext s1.extBut D.l1z) hx fun g2 e s2 he=>?_);obtain⟨oe,hoe,hce⟩:=he;have hz2:IsZip g2 z TI TO .ellipsis:=s2 _ _ D.i1z.symm hz1;have hez:e≠z:=fun q=>by subst q;rw[hz2]at hoe;cases hoe;simp at hce
  refine wpAny_setField_rec hz2 (by simp) fun g3 _ s3=>fin g3 e (fun c o hc q=>?_) ⟨oe,s3.extBut _ _ hez hoe,hce⟩;obtain⟨c1,_,c3,_⟩:=out hc;exact s3.extBut _ _ c1 (s2 _ _ c3 (s1.extBut _ _ c1 q))
 |some x =>
  have hy:ys[k]?=none:=by rcases hend with q|q;rw[hx]at q;cases q;exact q
  refine(ju (h1.ext s1.extBut D.i1z) (hl1.ext s1.extBut D.l1z) hx fun g2 n1 s2=>wpAny_pure ?_);have hTO2:IsPair g2 TO a b:=s2.extBut _ _ D.TOi1 (s1.extBut _ _ D.TOz hTO);refine wpAny_bind (wpAny_seqItems hTO2 rfl (wpAny_bind (wpAny_updateSeq_pair hTO2 fun g3 hTO3 s3=>?_)));refine wpAny_bind (wpAny_letGo (wpAny_pure (wpAny_bind (wpAny_bind (wpAny_onRaise ?_)))));refine wpAny_bind (m:=Builtin.SmallTypes.nextOf (.ref i2)) (pj hh (((h2.ext s1.extBut D.i2z).ext s2.extBut D.i12.symm).ext s3.extBut D.TOi2.symm) (((hl2.ext s1.extBut D.l2z).ext s2.extBut D.l2i1).ext s3.extBut D.l2TO) hy fun g4 e s4 he=>?_);obtain⟨oe,hoe,hce⟩:=he;have hz4:IsZip g4 z TI TO .ellipsis:=s4 _ _ D.i2z.symm (s3.extBut _ _ D.TOz.symm (s2.extBut _ _ D.i1z.symm hz1));have hez:e≠z:=fun q=>by subst q;rw[hz4]at hoe;cases hoe;simp at hce
  refine wpAny_setField_rec hz4 (by simp) fun g5 _ s5=>fin g5 e (fun c o hc q=>?_) ⟨oe,s5.extBut _ _ hez hoe,hce⟩;obtain⟨c1,c2,c3,c4⟩:=out hc;exact s5.extBut _ _ c1 (s4 _ _ c4 (s3.extBut _ _ c2 (s2.extBut _ _ c3 (s1.extBut _ _ c1 q))))
end
def zit(t:Bool):String:=if t then "tuple_iterator" else "list_iterator"
abbrev itO(t:Bool)(l:Addr):Obj:={cls:=.type (zit t),data:=.fields #[.ref l,.int 0 0]}
abbrev zA(t1:Bool)(h:Heap)(l1:Addr):Heap:=h.push (itO t1 l1)
abbrev zB(t1 t2:Bool)(h:Heap)(l1 l2:Addr):Heap:=(zA t1 h l1).push (itO t2 l2)
abbrev zC(t1 t2:Bool)(h:Heap)(l1 l2:Addr):Heap:=(zB t1 t2 h l1 l2).push {cls:=.type "tuple",data:=.seq #[.ref h.objs.size,.ref (zA t1 h l1).objs.size]}
abbrev zD(t1 t2:Bool)(h:Heap)(l1 l2:Addr):Heap:=(zC t1 t2 h l1 l2).push {cls:=.type "tuple",data:=.seq #[.none,.none]}
abbrev zE(t1 t2:Bool)(h:Heap)(l1 l2:Addr):Heap:=(zD t1 t2 h l1 l2).push {cls:=.type "zip",data:=.fields #[.none,.bool false,.bool false,.ref (zB t1 t2 h l1 l2).objs.size,.ref (zC t1 t2 h l1 l2).objs.size]}
theorem c7{prog:Program}{w:World}{A:Around}{E:Value->Shared->Prop}{s:Shared}(h:SubS t s.heap l its)
  (hQ:Q (.ref s.heap.objs.size) {s with heap:=s.heap.push (itO t l)}):wpAny (model prog w) A (pyIter (.ref l)) Q E s:=by
 cases t
 .exact wpAny_pyIter_list (show s.heap.IsList l its from h) hQ
 .exact wpAny_pyIter_tuple (show s.heap.IsTuple l its from h) hQ
theorem Bh(t1 t2:Bool)(l1 l2:Addr)(xs ys:Array Value) :
  Meets (Builtin.«zip.__new__» ⟨[.type "zip",.ref l1,.ref l2],[]⟩) (fun _ R s=>SubS t1 s.heap l1 xs/\SubS t2 s.heap l2 ys/\R (.ok (.ret (.ref (zD t1 t2 s.heap l1 l2).objs.size))) {s with heap:=zE t1 t2 s.heap l1 l2}) :=
 .of_wp fun prog w A R s h=>by
  rcases s with⟨hp,g,d,tk,os⟩;rcases h with⟨hl1,hl2,h⟩;have hsub:=sub_zip;have hL1:SubS t1 (Shared.heap ⟨hp,g,d,tk,os⟩) l1 xs:=hl1;have hL2:SubS t2 (Shared.heap ⟨hp.push (itO t1 l1),g,d,tk,os⟩) l2 ys:=hl2.keep fun o e=>Heap.get?_push_of_some _ e
  wp_walk using c7 hL1,c7 hL2
  exact⟨_,rfl,h⟩
section
variable {prog:Program}{w:World}{A:Around}{E:Value->Shared->Prop}{s:Shared}
theorem zp(hl1:SubS t1 s.heap l1 xs)(hl2:SubS t2 s.heap l2 ys)
  (h:∀h',xY t1 t2 (s.heap.objs.size+4) (s.heap.objs.size+2) (s.heap.objs.size+3) s.heap.objs.size (s.heap.objs.size+1) l1 l2 0 h'->(∀c o,s.heap.get? c=some o->h'.get? c=some o)->Q (.ref (s.heap.objs.size+4)) {s with heap:=h' }):wpAny (model prog w) A (call (.type "zip") [.ref l1,.ref l2]) Q E s:=by
 refine callType_new F.called_zip (by decide) (F.typeCall_zip_2 _ _) (F.newCall_zip_2 _ _) (fun obj=>F.args_object_init_3 obj _ _) F.entry_zip_new (Bh t1 t2 l1 l2 xs ys) ⟨hl1,hl2,?_⟩;have z1:(zA t1 s.heap l1).objs.size=s.heap.objs.size+1:=Heap.size_push ..;have z2:(zB t1 t2 s.heap l1 l2).objs.size=s.heap.objs.size+2:=by rw[Heap.size_push,z1]
 have z3:(zC t1 t2 s.heap l1 l2).objs.size=s.heap.objs.size+3:=by rw[Heap.size_push,z2]
 have z4:(zD t1 t2 s.heap l1 l2).objs.size=s.heap.objs.size+4:=by rw[Heap.size_push,z3]
 have up1:∀c o,(zD t1 t2 s.heap l1 l2).get? c=some o->(zE t1 t2 s.heap l1 l2).get? c=some o:=fun c o e=>Heap.get?_push_of_some _ e;have up2:∀c o,(zC t1 t2 s.heap l1 l2).get? c=some o->(zE t1 t2 s.heap l1 l2).get? c=some o:=fun c o e=>up1 c o (Heap.get?_push_of_some _ e);have up3:∀c o,(zB t1 t2 s.heap l1 l2).get? c=some o->(zE t1 t2 s.heap l1 l2).get? c=some o:=fun c o e=>up2 c o (Heap.get?_push_of_some _ e);have up4:∀c o,(zA t1 s.heap l1).get? c=some o->(zE t1 t2 s.heap l1 l2).get? c=some o:=fun c o e=>up3 c o (Heap.get?_push_of_some _ e);have g5:(zE t1 t2 s.heap l1 l2).get? (s.heap.objs.size+4)=some {cls:=.type "zip",data:=.fields #[.none,.bool false,.bool false,.ref (s.heap.objs.size+2),.ref (s.heap.objs.size+3)]}:=by
  rw[<-z4,<-z3,<-z2];exact Heap.get?_push_size _ rfl
 have g4:(zE t1 t2 s.heap l1 l2).get? (s.heap.objs.size+3)=some {cls:=.type "tuple",data:=.seq #[.none,.none]}:=by
  rw[<-z3];exact up1 _ _ (Heap.get?_push_size _ rfl)
 have g3:(zE t1 t2 s.heap l1 l2).get? (s.heap.objs.size+2)=some {cls:=.type "tuple",data:=.seq #[.ref s.heap.objs.size,.ref (s.heap.objs.size+1)]}:=by
  rw[<-z2,<-z1];exact up2 _ _ (Heap.get?_push_size _ rfl)
 have g2:(zE t1 t2 s.heap l1 l2).get? (s.heap.objs.size+1)=some (itO t2 l2):=by
  rw[<-z1];exact up3 _ _ (Heap.get?_push_size _ rfl)
 have g1:(zE t1 t2 s.heap l1 l2).get? s.heap.objs.size=some (itO t1 l1):=up4 _ _ (Heap.get?_push_size _ rfl);have sub:∀{t:Bool}{i l:Addr},(zE t1 t2 s.heap l1 l2).get? i=some (itO t l)->SubI t (zE t1 t2 s.heap l1 l2) i l 0:=fun {t i l} e=>by
  cases t
  .exact⟨_,e,rfl,rfl⟩
  .exact⟨_,e,rfl,rfl⟩
 show _/\_;rw[z4];exact⟨⟨_,g5,rfl⟩,h _ ⟨g5,g3,⟨_,_,g4⟩,sub g1,sub g2⟩ fun c o x=>up4 c o (Heap.get?_push_of_some _ x)⟩
end
theorem vo{l1 l2:Nat}(h1:l1<n)(h2:l2<n):Apart (n+4) (n+2) (n+3) n (n+1) l1 l2 where
 d:=by
  show List.Nodup ([n+4,n+2,n+3,n,n+1]:List Nat);simp only[List.nodup_cons,List.mem_cons,List.not_mem_nil,or_false,not_or,List.nodup_nil,and_true,not_false_eq_true];omega
 m1:=by
  show ¬(l1∈([n+4,n+2,n+3,n,n+1]:List Nat));simp only[List.mem_cons,List.not_mem_nil,or_false,not_or];omega
 m2:=by
  show ¬(l2∈([n+4,n+2,n+3,n,n+1]:List Nat));simp only[List.mem_cons,List.not_mem_nil,or_false,not_or];omega
def SqB(t:Bool)(K:PySem.W.Frag)(H:Hp)(a:Addr)(xs:List V):Prop:=if t then SqT K H a xs else SqL K H a xs
def Itz(t1 t2:Bool)(K:PySem.W.Frag)(a b:Addr):It where
 go:=fun i H=>∃xs ys x y,SqB t1 K H a xs/\SqB t2 K H b ys/\xs[i]?=some x/\ys[i]?=some y
 yld:=fun i H v H'=>∃T x y,v = .ref T/\H T=none/\H'=upd H T (.tup [x,y])/\(∀xs,SqB t1 K H a xs->xs[i]?=some x)/\∀ys,SqB t2 K H b ys->ys[i]?=some y
 stop:=fun i H=>∃xs ys,SqB t1 K H a xs/\SqB t2 K H b ys/\(xs.length≤i\/ys.length≤i)
theorem Inv.sqb{s:Shared}{xs:List V}(I:Inv X pins σ H s)(h:SqB t X.kx H a xs):∃its:List Value,Vals xs its/\SubS t s.heap a its.toArray/\xs.length≤sizeLine:=by
 cases t
 .obtain⟨its,r,p,z⟩:=I.list (show SqL X.kx H a xs from h);exact⟨its,r,p.isList,z⟩
 .obtain⟨its,r,p,z⟩:=I.tuple (show SqT X.kx H a xs from h);exact⟨its,r,p,z⟩
theorem Inv.sqb_inj{s:Shared}{xs ys:List V}(I:Inv X pins σ H s)(h:SqB t X.kx H a xs)(h':SqB t X.kx H a ys):xs=ys:=by
 cases t
 .exact I.list_inj (show SqL X.kx H a xs from h) (show SqL X.kx H a ys from h')
 .exact I.tuple_inj (show SqT X.kx H a xs from h) (show SqT X.kx H a ys from h')
theorem yO{P:Program}{w:World}{K:PySem.W.Frag}{x1:Nat}{pos:Pos}{TI TO:Addr}(D:Apart z TI TO i1 i2 a b):Turn P w K (.Tuple elts x1 pos) (Itz t1 t2 K a b) [z,TI,TO,i1,i2] z (fun i h=>xY t1 t2 z TI TO i1 i2 a b i h) where
 mem:=by simp
 obj:=fun i h st c hc=>by
  obtain⟨hz,hTI,⟨u,v,hTO⟩,h1,h2⟩:=st;simp only[List.mem_cons,List.not_mem_nil,or_false]at hc;rcases hc with rfl|rfl|rfl|rfl|rfl
  .exact⟨_,hz,fun v q=>by cases q⟩
  .exact⟨_,hTI,fun v q=>by cases q⟩
  .exact⟨_,hTO,fun v q=>by cases q⟩
  .obtain⟨o,vs,e,d⟩:=h1.obj;exact⟨o,e,fun v q=>by rw[d]at q;cases q⟩
  .obtain⟨o,vs,e,d⟩:=h2.obj;exact⟨o,e,fun v q=>by rw[d]at q;cases q⟩
 keep:=fun i h h' st k=>by
  obtain⟨hz,hTI,⟨u,v,hTO⟩,h1,h2⟩:=st;exact⟨k z (by simp) _ hz,k TI (by simp) _ hTI,⟨u,v,k TO (by simp) _ hTO⟩,h1.keep fun o e=>k i1 (by simp) o e,h2.keep fun o e=>k i2 (by simp) o e⟩
 item:=by
  intro X hP hw hK hc i pins s σ H E I hf st hg;subst hP hw hK;obtain⟨xs,ys,x,y,hq1,hq2,hx,hy⟩:=hg;obtain⟨its1,rv1,p1,_⟩:=I.sqb hq1;obtain⟨its2,rv2,p2,_⟩:=I.sqb hq2;obtain⟨u1,e1,ru1⟩:=rv1.get hx;obtain⟨u2,e2,ru2⟩:=rv2.get hy;refine yE D st p1 p2 (x:=u1) (y:=u2) (by simpa using e1) (by simpa using e2) fun h' a1 a2 a3 a4 a5 a6 a7=>⟨.ref s.heap.objs.size,rfl,?_⟩;refine wpAny_letOwnedTupleGo_zip (s:={s with heap:=h' }) a1 fun h2 b1 sb=>?_;have hfT:H s.heap.objs.size=none:=I.hok.fresh (Nat.le_refl _);have sfp:∀c∈[z,TI,TO,i1,i2],c<s.heap.objs.size:=fun c hc=>by
   obtain⟨hz,hTI,⟨u,v,hTO⟩,h1,h2⟩:=st;simp only[List.mem_cons,List.not_mem_nil,or_false]at hc;rcases hc with rfl|rfl|rfl|rfl|rfl
   .exact Heap.lt_size hz
   .exact Heap.lt_size hTI
   .exact Heap.lt_size hTO
   .obtain⟨o,vs,e,d⟩:=h1.obj;exact Heap.lt_size e
   .obtain⟨o,vs,e,d⟩:=h2.obj;exact Heap.lt_size e
  have nz:∀c∈[z,TI,TO,i1,i2],c≠s.heap.objs.size:=fun c hc=>Nat.ne_of_lt (sfp c hc);have dd:=D.old;have up:∀c o,c≠z->h'.get? c=some o->h2.get? c=some o:=fun c o n e=>sb.extBut c o n e;have T2:IsPair h2 s.heap.objs.size u1 u2:=up _ _ (Ne.symm (nz z (by simp))) a5;have I0:Inv X pins σ (upd H s.heap.objs.size (.tup [x,y])) {s with heap:=s.heap.push {cls:=.type "tuple",data:=.seq #[u1,u2]},toks:=s.toks} :=
   I.laid (o:=.tup [x,y]) (fun c o e=>Heap.get?_push_of_some _ e) (Nat.le_refl _) ⟨by show 2≤sizeLine;rw[sizeLine_eq];decide,[u1,u2],.cons ru1 (.cons ru2 .nil),PlainT.new _ _⟩
  have Il:Inv X pins σ (upd H s.heap.objs.size (.tup [x,y])) {s with heap:=h2,toks:=s.toks}:=by
   refine Inv.turneds (s:={s with heap:=s.heap.push {cls:=.type "tuple",data:=.seq #[u1,u2]},toks:=s.toks}) (h':=h2) (t':=s.toks) (ch:=[z,TI,TO,i1,i2]) I0 (fun c o hc e=>?_) fun c hc=>?_
   .rcases Heap.get?_push_cases e with⟨rfl,rfl⟩|e
    .exact T2
    .exact up c o (fun q=>hc (by simp[q])) (a7 c o (fun q=>hc (by simp only[List.mem_cons,List.not_mem_nil,or_false]at q⊢;rcases q with q|q|q|q<;>simp[q])) e)
   .obtain⟨f0,f1⟩:=hf c hc;exact⟨by rw[aw (nz c hc)];exact f0,f1⟩
  refine⟨.ref s.heap.objs.size,upd H s.heap.objs.size (.tup [x,y]),Il,rfl,⟨_,x,y,rfl,hfT,rfl,fun zs hz=>by rw[I.sqb_inj hz hq1];exact hx,fun zs hz=>by rw[I.sqb_inj hz hq2];exact hy⟩,⟨b1,up _ _ dd.TIz (a7 _ _ (by simp only[List.mem_cons,List.not_mem_nil,or_false,not_or];exact⟨dd.TIz,dd.TITO,dd.TIi1,dd.TIi2⟩) st.ti),⟨_,_,up _ _ dd.TOz a2⟩,a3.keep fun o e=>up _ o dd.i1z e,a4.keep fun o e=>up _ o dd.i2z e⟩,fun c hc=>?_⟩;rw[aw (nz c hc)];exact(hf c hc).1
 done:=by
  intro X hP hw hK hc i pins s σ H E I hf st hg;subst hP hw hK;obtain⟨xs,ys,hq1,hq2,he⟩:=hg;obtain⟨its1,rv1,p1,_⟩:=I.sqb hq1;obtain⟨its2,rv2,p2,_⟩:=I.sqb hq2;have l1:=rv1.length;have l2:=rv2.length;refine AD (I.ok.hd hc) D st p1 p2 (by rcases he with q|q;(left;simp;omega);(right;simp;omega)) fun h' hk=>⟨rfl,I.turneds (t':=s.toks) (ch:=[z,TI,TO,i1,i2]) (fun c o hc e=>hk c o (fun q=>hc (by simp only[List.mem_cons,List.not_mem_nil,or_false]at q⊢;rcases q with q|q|q|q<;>simp[q])) e) hf⟩
 self:=fun _ _ _ _ _ st h=>wpAny_pyIter_zip st.z h
section
variable {X:Cx}{elts:List Expr}{x1:Nat}{tpos:Pos}{a b:Expr}{ws:WA}{p pos:Pos}
def iZip(K:PySem.W.Frag)(ta:TA):TI:=fun σ H Rq=>ta σ H fun vs H1=>∃t1 t2 l1 l2,vs=[.ref l1,.ref l2]/\(∃xs,SqB t1 K H1 l1 xs)/\(∃ys,SqB t2 K H1 l2 ys)/\Rq (Itz t1 t2 K l1 l2) H1
theorem BV:bootBuiltins "zip" = some (.type "zip"):=by decide +kernel
theorem Fi{ta:TA}(hg:Gl X "zip")(hm:X.mg "zip" = none)(ha:PA X [a,b] ta)(hs:starEach [a,b] X.env=[(false,eval a X.env),(false,eval b X.env)]:=by first|exact(aV rfl).trans (congrArg _ (cv rfl))|rfl)(hs2:starEach [b] X.env=[(false,eval b X.env)]:=by first|exact cv rfl|rfl):PI X (.Tuple elts x1 tpos) (.Call (.Name "zip" p) [a,b] [] pos) (iZip X.K ta):=by
 intro pins s σ H Rq I h;refine Call_ (nA I hg hm BV (PyProof.Rows.callWith_type1 (thn (ha pos pins s σ H _ I h) fun us s1 ⟨vs,H1,I1,r1,q1⟩=>?_) (by rw[hs,hs2]) (by rw[hs2];rfl)));obtain⟨t1,t2,l1,l2,e,⟨xs,h1⟩,⟨ys,h2⟩,q⟩:=q1;subst e
 cases r1 with
 | cons r rr =>
  cases rr with
  | cons r' rr =>
   cases rr;cases r;cases r';obtain⟨its1,rv1,p1,_⟩:=I1.sqb h1;obtain⟨its2,rv2,p2,_⟩:=I1.sqb h2;refine zp p1 p2 fun h' Z hk=>?_;refine wpAny_pyIter_zip Z.z ?_;have lt:∀{t:Bool}{l:Addr}{its:Array Value},SubS t s1.heap l its->l<s1.heap.objs.size:=fun {t l its} p=>by
    cases t
    .obtain⟨o,e,_⟩:=(show s1.heap.IsList l its from p);exact Heap.lt_size e
    .obtain⟨o,e,_⟩:=(show s1.heap.IsTuple l its from p);exact Heap.lt_size e
   refine⟨s1.heap.objs.size+4,_,_,_,H1,rfl,I1.kept (t':=s1.toks) hk,yO (vo (lt p1) (lt p2)),Z,fun c hc=>?_,q⟩;have hle:s1.heap.objs.size≤c:=by
    have hc':c∈([s1.heap.objs.size+4,s1.heap.objs.size+2,s1.heap.objs.size+3,s1.heap.objs.size,s1.heap.objs.size+1]:List Nat):=hc;simp only[List.mem_cons,List.not_mem_nil,or_false]at hc';rcases hc' with rfl|rfl|rfl|rfl|rfl<;>first|exact Nat.le_add_right _ _|exact Nat.le_refl _
   exact I1.fpOk hle (I1.hok.fresh hle)
def imS:R->Option (Bool×List PyData)
 | .imm (.tuple ds)=>some (true,ds)
 | .imm (.list ds)=>some (false,ds)
 |_=>none
def zipD(ds es:List PyData):List PyData:=(ds.zip es).map fun p=>.tuple [p.1,p.2]
def AF(ws:WA):WI:=fun m K=>ws m fun rs m'=>match rs with|[r1,r2]=>∃t1 ds t2 es,imS r1=some (t1,ds)/\imS r2=some (t2,es)/\K ⟨zipD ds es,none⟩ m'|_=>False
theorem ut{K:Kd}{α:Al}{H0:Hp}{r:R}{v:V}(h:RelR K α H0 H r v)(e:imS r=some (t,ds)):∃l xs,v = .ref l/\DenAll K H ds xs/\(SqB t K H l xs)/\∀H1,Pers H H1->SqB t K H1 l xs:=by
 unfold imS at e
 split at e
 .cases e;obtain⟨l,xs,e,f,g⟩:=bA (show Den K H (.tuple ds) v from h);exact⟨l,xs,e,g,f,fun H1 p=>f.mono p⟩
 .cases e;have h':Den K H (.list ds) v:=h;simp only[Den]at h';obtain⟨l,xs,e,f,g⟩:=h';exact⟨l,xs,e,g,f.sq,fun H1 p=>(f.mono p).sq⟩
 .cases e
theorem d8(ds es:List PyData):(zipD ds es).length=min ds.length es.length:=by simp[zipD]
theorem qM{d e:PyData}(h1:ds[i]?=some d)(h2:es[i]?=some e):(zipD ds es)[i]?=some (.tuple [d,e]):=by
 unfold zipD;rw[List.getElem?_map,(List.getElem?_zip_eq_some (z:=(d,e))).mpr ⟨h1,h2⟩];rfl
theorem wks_zip{K:Kd}:Wks K (Itz t1 t2 K l1 l2) (zipD ds es) fun H=>∃xs ys,SqB t1 K H l1 xs/\SqB t2 K H l2 ys/\DenAll K H ds xs/\DenAll K H es ys where
 stop:=fun H ⟨xs,ys,q1,q2,g1,g2⟩=>⟨xs,ys,q1,q2,by rw[d8,<-g1.length,<-g2.length];omega⟩
 go:=fun i H hi ⟨xs,ys,q1,q2,g1,g2⟩=>by
  rw[d8]at hi;exact⟨xs,ys,xs[i]'(by rw[<-g1.length];omega),ys[i]'(by rw[<-g2.length];omega),q1,q2,List.getElem?_eq_getElem _,List.getElem?_eq_getElem _⟩
 yld:=fun i H x H' hi ⟨xs,ys,q1,q2,g1,g2⟩ y=>by
  obtain⟨T,u,v,rfl,hT,rfl,e1,e2⟩:=y;obtain⟨d,h1,k1⟩:=g1.get2 (e1 xs q1);obtain⟨e,h2,k2⟩:=g2.get2 (e2 ys q2);have gr:∀b o,H b=some o->upd H T (.tup [u,v]) b=some o:=fun b o q=>by rw[aw (aZ q hT)];exact q
  have pe:Pers H (upd H T (.tup [u,v])):=⟨fun b xs q=>gr b _ q,fun b o u q=>gr b _ q⟩;refine⟨gr,_,qM h1 h2,?_⟩;exact dg (SqT.of aC) (DenAll.cons (k1.mono pe) (DenAll.cons (k2.mono pe) DenAll.nil))
theorem FU(hm:X.mg "zip" = none)(ha:MA X [a,b] ws)(hg:Gl X "zip" :=by rfl)(hs:starEach [a,b] X.env=[(false,eval a X.env),(false,eval b X.env)]:=by first|exact(aV rfl).trans (congrArg _ (cv rfl))|rfl)(hs2:starEach [b] X.env=[(false,eval b X.env)]:=by first|exact cv rfl|rfl):MI X (.Tuple elts x1 tpos) (.Call (.Name "zip" p) [a,b] [] pos) (AF ws):=(Fi hg hm ha hs hs2).wk fun σ H Rq ⟨α,m,Kc,Rl,hw,fin⟩=>by
 refine⟨α,m,_,Rl,hw,fun rs m' vs H' k n Rl' rr F=>?_⟩
 cases rr with
 |nil=>exact k.elim
 |cons h1 rr =>
  cases rr with
  |nil=>exact k.elim
  |cons h2 rr =>
  cases rr with
  |cons _ _=>exact k.elim
  |nil =>
  obtain⟨t1,ds,t2,es,e1,e2,k⟩:=k;obtain⟨l1,xs,rfl,g1,q1,p1⟩:=ut h1 e1;obtain⟨l2,ys,rfl,g2,q2,p2⟩:=ut h2 e2;refine⟨t1,t2,l1,l2,rfl,⟨xs,q1⟩,⟨ys,q2⟩,fin _ m' _ H' k n Rl' F ⟨fun H=>∃xs ys,SqB t1 X.kx H l1 xs/\SqB t2 X.kx H l2 ys/\DenAll X.kx H ds xs/\DenAll X.kx H es ys/\(∀H1,Pers H H1->SqB t1 X.kx H1 l1 xs)/\∀H1,Pers H H1->SqB t2 X.kx H1 l2 ys,wks_zip.imp fun H ⟨xs,ys,a,b,c,d,_⟩=>⟨xs,ys,a,b,c,d⟩,⟨xs,ys,q1,q2,g1,g2,p1,p2⟩,fun Ha Hb ⟨xs,ys,a,b,c,d,pa,pb⟩ pe=>⟨xs,ys,pa Hb pe,pb Hb pe,c.mono pe,d.mono pe,fun H1 p=>pa H1 (pe.trans p),fun H1 p=>pb H1 (pe.trans p)⟩⟩⟩
theorem Ku{m:MSt}{Ks:Src->MSt->Prop}(h:ws m fun rs m'=>match rs with|[r1,r2]=>∃t1 ds t2 es,imS r1=some (t1,ds)/\imS r2=some (t2,es)/\Ks ⟨zipD ds es,none⟩ m'|_=>False):AF ws m Ks:=h
end
theorem Cp{x1:Nat}{tpos:Pos}{a b:Expr}{ws:WA}{p pos:Pos}(hm:X.mg "zip" = none)(ha:EA X [a,b] ws)(hg:Gl X "zip" :=by rfl)(hs:starEach [a,b] X.env=[(false,eval a X.env),(false,eval b X.env)]:=by first|exact(aV rfl).trans (congrArg _ (cv rfl))|rfl)(hs2:starEach [b] X.env=[(false,eval b X.env)]:=by first|exact cv rfl|rfl):EI X (.Tuple elts x1 tpos) (.Call (.Name "zip" p) [a,b] [] pos) (AF ws):=⟨FU hm ha.h hg hs hs2⟩
theorem gmap{α β:Type}{xs:List α}{y:β}{f:α->β}(h:(xs.map f)[i]?=some y):∃x,xs[i]?=some x/\y=f x/\i<xs.length:=by
 rw[List.getElem?_map]at h
 cases q:xs[i]? with
 |none=>rw[q]at h;cases h
 |some x=>rw[q]at h;exact⟨x,rfl,(Option.some.inj h).symm,(List.getElem?_eq_some_iff.mp q).1⟩
theorem bQ{lo:Int}{d:PyData}(h:(ga lo n)[i]?=some d):i<n/\d = .int (lo+(i:Int)):=by
 have hi:i<n:=by
  have:=(List.getElem?_eq_some_iff.mp h).1;rwa[aE]at this
 rw[iz hi]at h;exact⟨hi,(Option.some.inj h).symm⟩
theorem mJ{k:Nat}{P:MSt->Prop}{m:MSt}(ρ:List Nat)(m2:MSt)(N:Ren ρ (m.setV n (.obj k)) m2)(h:P m2):mw n P m (.obj k):=.inr ⟨ρ,m2,N,h⟩
theorem sr{d:PyData}{P:MSt->Prop}{m:MSt}(ρ:List Nat)(m2:MSt)(N:Ren ρ (m.setV n (.imm d)) m2)(h:P m2):mw n P m (.imm d):=.inr ⟨ρ,m2,N,h⟩
def RenO(ρ:List Nat)(o:Option R):Option R->Prop
 |none=>True
 |some r=>RenR ρ (some o) r
def RenVs(ρ:List Nat):List (Option R)->List (Option R)->Prop
 |o::os,q::qs=>RenO ρ o q/\RenVs ρ os qs
 |[],[]=>True
 |_,_=>False
theorem RenVs.len{ρ:List Nat}:∀{os qs:List (Option R)},RenVs ρ os qs->qs.length=os.length
 |[],[],_=>rfl
 |_::_,_::_,h=>congrArg (· + 1) (RenVs.len h.2)
 |[],_::_,h=>h.elim
 |_::_,[],h=>h.elim
theorem RenVs.get{ρ:List Nat}:∀{os qs:List (Option R)},RenVs ρ os qs->∀(j:Nat) (r:R),qs[j]?=some (some r)->RenR ρ os[j]? r
 |o::os,q::qs,h,0,r,e=>by
  have e':q=some r:=by simpa using e
  subst e';exact h.1
 |o::os,q::qs,h,j+1,r,e=>by simpa using RenVs.get h.2 j r (by simpa using e)
 |[],[],_,_,_,e=>by simp at e
 |[],_::_,h,_,_,_=>h.elim
 |_::_,[],h,_,_,_=>h.elim
theorem wq{ρ:List Nat}{m m2:MSt}(nd:decide ρ.Nodup=true)(lt:(ρ.all fun k=>Nat.blt k m.os.length)=true)(pre:ρ.take m.np=List.range m.np)(npl:Nat.ble m.np ρ.length=true)(os:m2.os=ρ.map fun k=>m.os.getD k [])(np:m2.np=m.np)(vs:RenVs ρ m.vs m2.vs):Ren ρ m m2 :=
 ⟨of_decide_eq_true nd,fun k hk=>Nat.blt_eq.mp (List.all_eq_true.mp lt k hk),pre,Nat.le_of_ble_eq_true npl,os,np,vs.len,fun j r e=>vs.get j r e⟩
theorem AW{d:PyData}(h:(zipD ds es)[i]?=some d):∃a b,ds[i]?=some a/\es[i]?=some b/\d = .tuple [a,b]:=by
 obtain⟨p,h1,rfl,_⟩:=gmap h;obtain⟨h2,h3⟩:=List.getElem?_zip_eq_some.mp h1;exact⟨p.1,p.2,h2,h3,rfl⟩
end L2
namespace M3
def stepL(xs:List (List Nat))(r:Nat):List (List Nat):=xs.flatMap fun a=>(List.range (r+1)).map fun k=>a++[k]
def allL(rs:List Nat):List (List Nat):=rs.foldl stepL [[]]
def allR:List Nat->List (List Nat)
 |[]=>[[]]
 |r::rs=>(List.range (r+1)).flatMap fun k=>(allR rs).map (k :: ·)
theorem ni:∀(rs:List Nat) (xs:List (List Nat)),rs.foldl stepL xs=xs.flatMap fun a=>(allR rs).map (a++·)
 |[],xs=>by
  simp[allR]
 |r::rs,xs=>by
  rw[List.foldl_cons,ni rs];simp only[stepL,allR,List.flatMap_assoc,List.map_flatMap,List.flatMap_map,List.map_map]
  congr 1
  funext a
  congr 1
  funext k
  congr 1
  funext l
  simp
theorem allL_eq(rs:List Nat):allL rs=allR rs:=by
 unfold allL;rw[ni];simp
theorem allR_len:∀{rs l:List Nat},l∈allR rs->l.length=rs.length
 |[],l,h=>by simp[allR]at h;subst h;rfl
 |r::rs,l,h=>by
  simp only[allR,List.mem_flatMap,List.mem_map]at h;obtain⟨k,_,l',h,rfl⟩:=h;simp[allR_len h]
theorem stepL_length(xs:List (List Nat))(r:Nat):(stepL xs r).length=xs.length*(r+1):=by
 unfold stepL
 induction xs with
 |nil=>simp
 |cons a xs ih =>
  rw[List.flatMap_cons,List.length_append,ih,List.length_map,List.length_range,List.length_cons,Nat.succ_mul];omega
theorem qK:∀{rs:List Nat}{xs:List (List Nat)},(∀r∈rs,r≤6)->(rs.foldl stepL xs).length≤xs.length*7^rs.length
 |[],xs,_=>by simp
 |r::rs,xs,h=>by
  rw[List.foldl_cons];refine Nat.le_trans (qK fun r' h'=>h r' (List.mem_cons_of_mem _ h')) ?_;rw[stepL_length,List.length_cons,Nat.pow_succ,Nat.mul_assoc,Nat.mul_comm (7^rs.length)];refine Nat.mul_le_mul_left _ (Nat.mul_le_mul_right _ ?_);have:=h r List.mem_cons_self;omega
theorem fold_small{rs:List Nat}(h4:rs.length≤4)(h:∀r∈rs,r≤6):(rs.foldl stepL [[]]).length≤2401:=by
 refine Nat.le_trans (qK h) ?_;have:7^rs.length≤7^4:=Nat.pow_le_pow_right (by decide) h4;simpa using this
theorem stepL_take{xs:List (List Nat)}{r j:Nat}{l:List Nat}(h:xs[j]?=some l):stepL (xs.take (j+1)) r=stepL (xs.take j) r++(List.range (r+1)).map fun y=>l++[y]:=by
 unfold stepL;rw[List.take_add_one,h,List.flatMap_append];simp
end M3
set_option maxHeartbeats 4100000
namespace K
open PySem L2
variable{h:Hall}
def yp:SpM:=fun as K=>∃ns:List Int,as=[.imm (.list (ns.map .int))]/\ns.length≤63/\K (.imm (.bool true)) []
def frD(a b:Int):PyData:=.tuple [.int a,.int b]
structure Srv where
 a:Nat
 b:Nat
 r:Nat
def Srv.d(s:Srv):PyData:=.tuple [.tuple [.int s.a,.int s.b],.int s.r]
structure Srv.Ok(s:Srv):Prop where
 a1:1≤s.a
 a2:s.a<1000000
 b1:1≤s.b
 b2:s.b<1000000
 r1:1≤s.r
 r6:s.r≤6
structure Hall where
 a:Nat
 b:Nat
 ss:List Srv
 mv:Bool
def Hall.d(h:Hall):PyData:=.tuple [.tuple [.int h.a,.int h.b],.tuple (h.ss.map Srv.d),.bool h.mv]
structure Hall.Ok(h:Hall):Prop where
 a1:1≤h.a
 a2:h.a<1000000
 b1:1≤h.b
 b2:h.b<1000000
 n1:1≤h.ss.length
 n4:h.ss.length≤4
 ok:∀s∈h.ss,s.Ok
def Hall.rs(h:Hall):List Nat:=h.ss.map Srv.r
theorem Hall.rsl(h:Hall):h.rs.length=h.ss.length:=by simp[Hall.rs]
theorem Hall.Ok.r6(o:h.Ok):∀r∈h.rs,r≤6:=fun r hr=>by
 obtain⟨s,hs,rfl⟩:=List.mem_map.mp hr;exact(o.ok s hs).r6
theorem Hall.rs_get{i:Nat}{s:Srv}(e:h.ss[i]?=some s):h.rs[i]?=some s.r:=by simp[Hall.rs,e]
def prD(p:Nat×Nat):PyData:=.tuple [.int (p.1:Int),.int (p.2:Int)]
def natD(l:List Nat):List PyData:=l.map fun(k:Nat)=>.int (k:Int)
def lnD(l:List Nat):PyData:=.tuple (natD l)
theorem aq(l:List Nat):(natD l).length=l.length:=by simp[natD]
theorem aF{l:List Nat}{i x:Nat}(h:l[i]?=some x):(natD l)[i]?=some (.int (x:Int)):=by simp[natD,h]
theorem rf(a b:List Nat):natD (a++b)=natD a++natD b:=by simp[natD]
def yM:SpM:=fun as K=>∃h:Hall,as=[.imm h.d]/\h.Ok/\K (.new ((M3.allR h.rs).map lnD)) []
theorem wJ(l:List Nat):Shp 1 (lnD l):=vO (k:=0) fun d hd=>by
 simp[natD]at hd;obtain⟨x,hx,rfl⟩:=hd;exact d7 _
inductive Rule where
 |random|turns|two|least|quick
 |told (ps:List Nat)
def Rule.word:Rule->Str
 | .random => "random" | .turns => "turns" | .two => "two" | .least => "least" | .quick => "quick" | .told _ => "told"
def Rule.d:Rule->PyData
 | .told ps=>.tuple [.str "told",lnD ps]
 |r=>.tuple [.str r.word]
def Rule.Ok(h:Hall):Rule->Prop
 | .told ps=>ps.length=(M3.allR h.rs).length/\∀p∈ps,p<h.ss.length
 |_=>True
theorem ip{rs:List Nat}(h4:rs.length≤4)(h:∀r∈rs,r≤6):(M3.allR rs).length≤2401:=by
 rw[<-M3.allL_eq];exact M3.fold_small h4 h
def Lines(h:Hall)(l:List Nat):Prop:=l.length=h.ss.length/\∀(i:Nat) s x,h.ss[i]?=some s->l[i]?=some x->x≤s.r
theorem Lines.le{l:List Nat}(o:h.Ok)(k:Lines h l):∀x∈l,x≤6:=fun x hx=>by
 obtain⟨i,hi,rfl⟩:=List.mem_iff_getElem.mp hx;have hi':i<h.ss.length:=by rw[<-k.1];exact hi
 have:=k.2 i _ _ (List.getElem?_eq_getElem hi') (List.getElem?_eq_getElem hi);have:=(o.ok _ (List.getElem_mem hi')).r6;omega
end K
namespace M7
open M3
def placeF:Nat->List Nat->List Nat->Nat
 |acc,r::rs,x::l=>placeF (acc*(r+1)+x) rs l
 |acc,_,_=>acc
def cnt:List Nat->Nat
 |[]=>1
 |r::rs=>(r+1)*cnt rs
theorem allR_cnt:∀rs:List Nat,(allR rs).length=cnt rs
 |[]=>rfl
 | r::rs=>by
  have ih:=allR_cnt rs;have:∀n:Nat,((List.range n).flatMap fun k=>(allR rs).map (k :: ·)).length=n*cnt rs:=by
   intro n
   induction n with
   |zero=>simp
   |succ n ihn=>rw[List.range_succ,List.flatMap_append,List.length_append,ihn];simp[ih,Nat.succ_mul]
  exact this (r+1)
theorem il:∀{rs l:List Nat}{acc:Nat},l.length=rs.length->placeF acc rs l=acc*cnt rs+placeF 0 rs l
 |[],[],acc,_=>by simp[placeF,cnt]
 |r::rs,x::l,acc,h=>by
  have h':l.length=rs.length:=by simpa using h
  simp only[placeF,cnt];rw[il h',il (acc:=0*(r+1)+x) h',Nat.add_mul,Nat.mul_assoc];simp[Nat.add_assoc]
 |[],_::_,_,h=>by simp at h
 |_::_,[],_,h=>by simp at h
theorem gy{r x:Nat}{rs l:List Nat}(h:l.length=rs.length):placeF 0 (r::rs) (x::l)=x*cnt rs+placeF 0 rs l:=by
 simp only[placeF];rw[il h];simp
theorem vD{N:Nat}(f:Nat->List (List Nat))(hf:∀k,(f k).length=N):∀(n k j:Nat),k<n->j<N->((List.range n).flatMap f)[k*N+j]?=(f k)[j]?
 |0,k,j,h,_=>by omega
 | n+1,k,j,h,hj=>by
  have hl:((List.range n).flatMap f).length=n*N:=by
   clear h hj
   induction n with
   |zero=>simp
   |succ n ih=>rw[List.range_succ,List.flatMap_append,List.length_append,ih];simp[hf,Nat.succ_mul]
  rw[List.range_succ,List.flatMap_append]
  by_cases hk:k<n
  .have:k*N+j<n*N:=by
    have:=Nat.mul_le_mul_right N (show k+1≤n by omega);rw[Nat.succ_mul]at this;omega
   rw[List.getElem?_append_left (by omega),vD f hf n k j hk hj]
  .have e:k=n:=by omega
   subst e;rw[List.getElem?_append_right (by omega),hl];simp
def Fits:List Nat->List Nat->Prop
 |r::rs,x::l=>x≤r/\Fits rs l
 |[],[]=>True
 |_,_=>False
theorem Fits.len:∀{rs l:List Nat},Fits rs l->l.length=rs.length
 |[],[],_=>rfl
 |_::_,_::_,h=>congrArg (· + 1) h.2.len
 |[],_::_,h=>h.elim
 |_::_,[],h=>h.elim
theorem place_lt:∀{rs l:List Nat},Fits rs l->placeF 0 rs l<cnt rs
 |[],[],_=>by simp[placeF,cnt]
 |r::rs,x::l,h=>by
  rw[gy h.2.len,cnt];have:=place_lt h.2;have h2:=Nat.mul_le_mul_right (cnt rs) (show x+1≤r+1 by have:=h.1;omega);rw[Nat.succ_mul]at h2;omega
 |[],_::_,h=>h.elim
 |_::_,[],h=>h.elim
theorem place_at:∀{rs l:List Nat},Fits rs l->(allR rs)[placeF 0 rs l]?=some l
 |[],[],_=>rfl
 |r::rs,x::l,h=>by
  rw[gy h.2.len];show((List.range (r+1)).flatMap fun k=>(allR rs).map (k :: ·))[_]?=_;rw[vD (N:=cnt rs) (fun k=>(allR rs).map (k :: ·)) (fun k=>by rw[List.length_map,allR_cnt]) (r+1) x _ (by have:=h.1;omega) (place_lt h.2),List.getElem?_map,place_at h.2];rfl
 |[],_::_,h=>h.elim
 |_::_,[],h=>h.elim
theorem place_only:∀{rs:List Nat}{i:Nat}{l:List Nat},(allR rs)[i]?=some l->i=placeF 0 rs l
 |[],0,l,h=>by
  have:l=[]:=by simpa[allR]using h.symm
  subst this;rfl
 |[],i+1,l,h=>by simp[allR]at h
 | r::rs,i,l,h=>by
  have hi:=(List.getElem?_eq_some_iff.mp h).1;rw[allR_cnt,cnt]at hi;have hN:0<cnt rs:=Nat.pos_of_ne_zero fun z=>by rw[z]at hi;simp at hi
  have hk:i/cnt rs<r+1:=Nat.div_lt_of_lt_mul (by rw[Nat.mul_comm];exact hi);have hj:=Nat.mod_lt i hN;have e:i=i/cnt rs*cnt rs+i%cnt rs:=by rw[Nat.mul_comm];exact(Nat.div_add_mod i (cnt rs)).symm
  have h':=vD (N:=cnt rs) (fun k=>(allR rs).map (k :: ·)) (fun k=>by rw[List.length_map,allR_cnt]) (r+1) _ _ hk hj;rw[<-e]at h';have h2:((List.range (r+1)).flatMap fun k=>(allR rs).map (k :: ·))[i]?=some l:=h;rw[h2,List.getElem?_map]at h'
  cases q:(allR rs)[i%cnt rs]? with
  |none=>rw[q]at h';cases h'
  |some l' =>
   rw[q]at h';have:l=(i/cnt rs)::l':=Option.some.inj h';subst this;have ih:=place_only q;have hl:l'.length=rs.length:=allR_len (List.mem_of_getElem? q);rw[gy hl,<-ih,Nat.mul_comm];exact(Nat.div_add_mod i (cnt rs)).symm
def pick(lt:Nat->Nat->Bool):Nat->List Nat->Nat
 |b,[]=>b
 |b,k::ks=>pick lt (if lt k b then k else b) ks
theorem qI{lt:Nat->Nat->Bool}:∀{ks:List Nat}{b:Nat},pick lt b ks=b\/pick lt b ks∈ks
 |[],b=>.inl rfl
 | k::ks,b=>by
  simp only[pick];rcases qI (lt:=lt) (ks:=ks) (b:=if lt k b then k else b)with h|h
  .rw[h]
   by_cases q:lt k b=true
   .rw[if_pos q];exact .inr List.mem_cons_self
   .rw[if_neg q];exact .inl rfl
  .exact .inr (List.mem_cons_of_mem _ h)
theorem pick_app{lt:Nat->Nat->Bool}:∀{ks:List Nat}{b k:Nat},pick lt b (ks++[k])=if lt k (pick lt b ks)then k else pick lt b ks
 |[],b,k=>rfl
 |j::ks,b,k=>by simp only[List.cons_append,pick];exact pick_app
theorem placeF_take:∀{rs l:List Nat}{i acc r x:Nat},rs[i]?=some r->l[i]?=some x->placeF acc (rs.take (i+1)) (l.take (i+1))=placeF acc (rs.take i) (l.take i)*(r+1)+x
 |r0::rs,x0::l,0,acc,r,x,h1,h2=>by
  have e1:r0=r:=by simpa using h1
  have e2:x0=x:=by simpa using h2
  subst e1 e2;simp[placeF]
 |r0::rs,x0::l,i+1,acc,r,x,h1,h2=>by
  simp only[List.take_succ_cons,placeF];exact placeF_take (by simpa using h1) (by simpa using h2)
 |[],_,_,_,_,_,h1,_=>by simp at h1
 |_::_,[],_,_,_,_,_,h2=>by simp at h2
end M7
namespace K
open PySem L2 M7
variable{n:Nat}
def Hall.an(h:Hall)(k:Nat):Nat:=(h.ss.map Srv.a).getD k 0
def Hall.bn(h:Hall)(k:Nat):Nat:=(h.ss.map Srv.b).getD k 0
def bg(l:List Nat)(k b:Nat):Bool:=decide (l.getD k 0<l.getD b 0)
def bF(h:Hall)(l:List Nat)(k b:Nat):Bool:=decide ((l.getD k 0+1)*h.bn k*h.an b<(l.getD b 0+1)*h.bn b*h.an k)
def sent(h:Hall)(r:Rule)(l:List Nat)(t:Nat)(o:List Nat):Nat:=match r with
 | .random=>o.headD 0
 | .turns=>t
 | .two=>pick (bg l) (o.headD 0) (o.take 2)
 | .least=>pick (bg l) (o.headD 0) o
 | .quick=>pick (bF h l) (o.headD 0) o
 | .told ps=>ps.getD (placeF 0 h.rs l) 0
structure Ord(n:Nat)(o:List Nat):Prop where
 ne:o≠[]
 lt:∀k∈o,k<n
 le:o.length≤4
theorem Lines.fits{h:Hall}{l:List Nat}(k:Lines h l):Fits h.rs l:=by
 obtain⟨k1,k2⟩:=k;unfold Hall.rs;generalize h.ss=ss at k1 k2
 induction ss generalizing l with
 |nil=>cases l with
  |nil=>trivial
  |cons _ _=>simp at k1
 |cons s ss ih=>cases l with
  |nil=>simp at k1
  |cons x l=>exact⟨k2 0 s x rfl rfl,ih (by simpa using k1) fun i s x e1 e2=>k2 (i+1) s x (by simpa using e1) (by simpa using e2)⟩
theorem getN{l:List Nat}{k:Nat}(hl:l.length=n)(hk:k<n):l[k]?=some (l.getD k 0):=by
 rw[bM (List.getElem?_eq_getElem (show k<l.length by omega))];exact List.getElem?_eq_getElem _
theorem Hall.srv{h:Hall}{k:Nat}(hk:k<h.ss.length):∃s,h.ss[k]?=some s/\h.an k=s.a/\h.bn k=s.b/\s∈h.ss:=by
 refine⟨h.ss[k],List.getElem?_eq_getElem hk,?_,?_,List.getElem_mem hk⟩
 .exact bM (by rw[List.getElem?_map,List.getElem?_eq_getElem hk];rfl)
 .exact bM (by rw[List.getElem?_map,List.getElem?_eq_getElem hk];rfl)
def zX:SpM:=fun as K=>∃a b c d:Nat,as=[.imm (frD a b),.imm (frD c d)]/\a<1000000000000/\b<1000000000000/\c<1000000000000/\d<1000000000000/\K (.imm (.bool (decide (a*d<c*b)))) []
def vz:SpM:=fun as K=>∃(h:Hall) (l:List Nat),as=[.imm h.d,.imm (lnD l)]/\h.Ok/\Lines h l/\K (.imm (.int (placeF 0 h.rs l:Nat))) []
def kU:SpM:=fun as K=>∃(l o:List Nat),as=[.imm (lnD l),.imm (lnD o)]/\Ord l.length o/\K (.imm (.int (pick (bg l) (o.headD 0) o:Nat))) []
def zN:SpM:=fun as K=>∃(h:Hall) (l:List Nat) (k:Nat),as=[.imm h.d,.imm (lnD l),.imm (.int (k:Int))]/\h.Ok/\Lines h l/\k<h.ss.length/\K (.imm (frD ((l.getD k 0+1)*h.bn k:Nat) (h.an k:Nat))) []
def ig:SpM:=fun as K=>∃(h:Hall) (l o:List Nat),as=[.imm h.d,.imm (lnD l),.imm (lnD o)]/\h.Ok/\Lines h l/\Ord h.ss.length o/\K (.imm (.int (pick (bF h l) (o.headD 0) o:Nat))) []
def stD(l:List Nat)(t:Nat):PyData:=.tuple [lnD l,.int (t:Int)]
def jp:SpM:=fun as K=>∃(h:Hall) (r:Rule) (l:List Nat) (t:Nat) (o:List Nat),as=[.imm h.d,.imm r.d,.imm (stD l t),.imm (lnD o)]/\h.Ok/\r.Ok h/\Lines h l/\Ord h.ss.length o/\K (.imm (.int (sent h r l t o:Nat))) []
theorem Ord.cons{o:List Nat}(h:Ord n o):∃k ks,o=k::ks/\k<n:=by
 cases o with
 |nil=>exact(h.ne rfl).elim
 |cons k ks=>exact⟨k,ks,rfl,h.lt k List.mem_cons_self⟩
theorem fB{lt:Nat->Nat->Bool}{o:List Nat}(h:Ord n o)(i:Nat):pick lt (o.headD 0) (o.take i)<n:=by
 obtain⟨k,ks,rfl,hk⟩:=h.cons;rcases qI (lt:=lt) (ks:=(k::ks).take i) (b:=k)with e|e
 .show pick lt k _<n;rw[e];exact hk
 .exact h.lt _ (List.mem_of_mem_take e)
theorem qt:∀a b:List Nat,PyData.eqvAll (natD a) (natD b)=decide (a=b)
 |[],[]=>by simp[natD,PyData.eqvAll]
 |[],y::b=>by simp[natD,PyData.eqvAll]
 |x::a,[]=>by simp[natD,PyData.eqvAll]
 |x::a,y::b=>by
  have ih:=qt a b;unfold natD at ih;simp only[natD,List.map_cons,PyData.eqvAll,PyData.eqv,ih]
  by_cases h:x=y
  .subst h;simp
  .have:¬((x:Int)=(y:Int)):=fun z=>h (Int.ofNat.inj z);simp[h,this]
theorem zJ(a b:List Nat):PyData.eqv (lnD a) (lnD b)=decide (a=b):=by
 simp only[lnD,PyData.eqv];exact qt a b
def Rule.tl:Rule->List PyData
 | .told ps=>[lnD ps]
 |_=>[]
theorem Rule.dc(r:Rule):r.d = .tuple (.str r.word::r.tl):=by cases r<;>rfl
theorem Dg{m:MSt}{Kr:R->Prop}{d x:PyData}{ds:List PyData}{i:Int}(e:d = .tuple ds)(h:atI ds i=some x)(k:Kr (.imm x)):lq (.imm d) (.imm (.int i)) m Kr:=by
 subst e;exact aD h k
end K
namespace L2
open PySem PySem.Spec PyProof.Rows
variable{t:Bool}{e it l:Addr}{items:Array Value}{Q:Option Value->Shared->Prop}{ns:List Int}{i:Nat}{ds:List PyData}{Kr:R->Prop}{ob:WM}{K:R->MSt->Prop}
theorem jL{prog:Program}{w:World}{A:Around}(t:Bool)(hh:A.handled=none)(I ax:Addr)(hne:ax≠I)(items:Array Value):Walks prog w A I [I,ax] [I] items.size (fun i v=>items[i]?=some v) (fun i h=>SubI t h I ax i/\SubS t h ax items):=by
 cases t
 .exact Walks.list hh I ax hne items
 .exact Walks.tuple hh I ax hne items
section
variable {prog:Program}{w:World}{A:Around}{E:Value->Shared->Prop}{s:Shared}
theorem lg{Q:Value->Shared->Prop}(hl:SubS t s.heap l items)
  (h:∀s2:Shared,s2={s with heap:=s.heap.push (itO t l)}->(SubI t s2.heap s.heap.objs.size l 0/\SubS t s2.heap l items)->(∀b∈[s.heap.objs.size,l],b<s2.heap.objs.size)->l≠s.heap.objs.size->Q (.ref s.heap.objs.size) s2):wpAny (model prog w) A (pyIter (.ref l)) Q E s:=by
 have hlt:l<s.heap.objs.size:=by
  cases t
  .obtain⟨_,e,_⟩:=(show s.heap.IsList l items from hl);exact Heap.lt_size e
  .obtain⟨_,e,_⟩:=(show s.heap.IsTuple l items from hl);exact Heap.lt_size e
 refine c7 hl (h _ rfl ⟨?_,hl.keep fun o e=>Heap.get?_push_of_some _ e⟩ (fun b hb=>?_) (Nat.ne_of_lt hlt))
 .cases t
  .exact⟨_,Heap.get?_push_size _ rfl,rfl,rfl⟩
  .exact⟨_,Heap.get?_push_size _ rfl,rfl,rfl⟩
 .show b<(s.heap.push _).objs.size;rw[Heap.size_push];simp only[List.not_mem_nil,or_false,List.mem_cons]at hb;rcases hb with rfl|rfl
  .exact Nat.lt_succ_self _
  .exact Nat.lt_succ_of_lt hlt
theorem ly{h':Heap}(hk:∀b o,b∉[s.heap.objs.size]->(s.heap.push (itO t l)).get? b=some o->h'.get? b=some o):∀b o,s.heap.get? b=some o->h'.get? b=some o:=fun b o e =>
 hk b o (fun hm=>absurd (Heap.lt_size e) (by rw[List.mem_singleton.mp hm];exact Nat.lt_irrefl _)) (Heap.get?_push_of_some _ e)
theorem jQ(hi:IntsAre items.toList ns):∀(i:Nat) (v:Value),items[i]?=some v->∃t,v = .int (ns.getD i 0) t:=fun i v e=>hi.int_at i v (by simpa using e)
end
section
variable {X:Cx}
def rMax(K:PySem.W.Frag):List V->Hp->VK->Prop:=fun xs H Q=>∃t l ns,xs=[.ref l]/\SqB t K H l (ns.map V.int)/\ns≠[]/\∀x,x∈ns->(∀y∈ns,y≤x)->Q (.int x) H
theorem si{b:Nat}(hb:b≤ns.length-1)(hne:ns≠[]):ns.getD b 0∈ns:=by
 have hl:b<ns.length:=by
  have:ns.length≠0:=fun z=>hne (List.eq_nil_of_length_eq_zero z);omega
 rw[bM (List.getElem?_eq_getElem hl)];exact List.getElem_mem hl
theorem mF(hc:X.calm=true):dn X (.builtin "max") (rMax X.K):=by
 rintro pins s σ H xs us Q I rv ⟨t,l,ns,ex,hq,hne,q⟩;subst ex;obtain⟨u,rfl,ru⟩:=rv.one;cases ru;obtain⟨its,rvv,pl,_⟩:=I.sqb hq;have hi:IntsAre its.toArray.toList ns:=fI rvv;have hl:its.length=ns.length:=by have:=rvv.length;rw[List.length_map]at this;omega
 refine call_max_walk (lg pl fun s2 e st hfp hlI=>?_);subst e;refine⟨s.heap.objs.size,[s.heap.objs.size,l],[s.heap.objs.size],its.toArray.size,fun i v=>its.toArray[i]?=some v,fun i h=>SubI t h s.heap.objs.size l i/\SubS t h l its.toArray,_,rfl,jL (A:=X.A.in1) t (I.ok.hd hc) _ l hlI its.toArray,st,hfp,?_,CmpOf.ints_gt (fun i=>ns.getD i 0) (jQ hi),fun v h' tk hP hk=>?_⟩
 .have:ns.length≠0:=fun z=>hne (List.eq_nil_of_length_eq_zero z);rw[List.size_toArray];omega
 .obtain⟨tt,rfl⟩:=jQ hi _ v hP;rw[List.size_toArray,hl]at *;obtain⟨b1,b2⟩:=PySem.argBest_gt (fun i=>ns.getD i 0) (ns.length-1);refine⟨.int _,H,I.kept (t':=tk) (ly hk),⟨_,rfl⟩,q _ (si b1 hne) fun y hy=>?_⟩;obtain⟨j,hj,rfl⟩:=List.mem_iff_getElem.mp hy;have:=b2 j (by omega);rwa[bM (List.getElem?_eq_getElem hj)]at this
def rMin(K:PySem.W.Frag):List V->Hp->VK->Prop:=fun xs H Q=>∃t l ns,xs=[.ref l]/\SqB t K H l (ns.map V.int)/\ns≠[]/\∀x,x∈ns->(∀y∈ns,x≤y)->Q (.int x) H
theorem n6(hc:X.calm=true):dn X (.builtin "min") (rMin X.K):=by
 rintro pins s σ H xs us Q I rv ⟨t,l,ns,ex,hq,hne,q⟩;subst ex;obtain⟨u,rfl,ru⟩:=rv.one;cases ru;obtain⟨its,rvv,pl,_⟩:=I.sqb hq;have hi:IntsAre its.toArray.toList ns:=fI rvv;have hl:its.length=ns.length:=by have:=rvv.length;rw[List.length_map]at this;omega
 refine call_min_walk (lg pl fun s2 e st hfp hlI=>?_);subst e;refine⟨s.heap.objs.size,[s.heap.objs.size,l],[s.heap.objs.size],its.toArray.size,fun i v=>its.toArray[i]?=some v,fun i h=>SubI t h s.heap.objs.size l i/\SubS t h l its.toArray,_,rfl,jL (A:=X.A.in1) t (I.ok.hd hc) _ l hlI its.toArray,st,hfp,?_,CmpOf.ints_lt (fun i=>ns.getD i 0) (jQ hi),fun v h' tk hP hk=>?_⟩
 .have:ns.length≠0:=fun z=>hne (List.eq_nil_of_length_eq_zero z);rw[List.size_toArray];omega
 .obtain⟨tt,rfl⟩:=jQ hi _ v hP;rw[List.size_toArray,hl]at *;obtain⟨b1,b2⟩:=PySem.argBest_lt (fun i=>ns.getD i 0) (ns.length-1);refine⟨.int _,H,I.kept (t':=tk) (ly hk),⟨_,rfl⟩,q _ (si b1 hne) fun y hy=>?_⟩;obtain⟨j,hj,rfl⟩:=List.mem_iff_getElem.mp hy;have:=b2 j (by omega);rwa[bM (List.getElem?_eq_getElem hj)]at this
end
section
variable {prog:Program}{w:World}{A:Around}{E:Value->Shared->Prop}{s:Shared}
structure qX(t:Bool)(e it l:Addr)(k:Nat)(h:Heap):Prop where
 e:∃old,IsEnum h e it (k:Int) old
 s:SubI t h it l k
theorem vT{x:Value}(Z:qX t e it l i s.heap)(hl:SubS t s.heap l items)(hx:items[i]?=some x)(hne:e≠it)
  (hQ:∀h',IsEnumOut h' e it ((i:Int)+1) x s.heap.objs.size->SubI t h' it l (i+1)->IsPair h' s.heap.objs.size (.int i s.toks) x->h'.objs.size=s.heap.objs.size+1 ->
   (∀b o,b∉[e,it]->s.heap.get? b=some o->h'.get? b=some o)->Q (some (.ref s.heap.objs.size)) {s with heap:=h',toks:=s.toks+1}):wpAny (model prog w) A (pyNext (.ref e)) Q E s:=by
 obtain⟨⟨old,he⟩,hit⟩:=Z;have hT:s.TypeIs (.ref e) "enumerate" :=(⟨_,he,rfl⟩);unfold pyNext;refine wpAny_bind (wpAny_attempt (wpAny_callSpecial?_slot (name:=Str.ofString "__next__") hT F.slot_enumerate_next (wpAny_call_entry F.slot_enumerate_next hT F.entry_enumerate_next ?_ (F.args_enumerate_next_1 _))));rcases s with⟨hp,g,d,tk,os⟩;refine wpAny_bind (m:=field (.ref e) 2) (wpAny_field he rfl (x:=.ref it) rfl (wpAny_bind (ju hit hl hx fun g1 n1 s1=>?_)));replace s1:Heap.SameBut it hp g1:=s1;have e1:IsEnum g1 e it i old:=(s1.2 e hne).trans he;show wpAny _ _ (field (.ref e) 3 >>= _) _ _ ⟨g1,g,d,tk,os⟩;refine wpAny_bind (wpAny_field e1 rfl (x:=rawInt i) rfl ?_);show wpAny _ _ (field (.ref e) 4 >>= _) _ _ ⟨g1,g,d,tk,os⟩;refine wpAny_bind (wpAny_field e1 rfl (x:=.none) rfl ?_);refine wpAny_bind (m:=mkInt i) (wpAny_mkInt ?_);show wpAny _ _ (setField (.ref e) 3 (rawInt ((i:Int)+1)) >>= _) _ _ ⟨g1,g,d,tk+1,os⟩;refine wpAny_bind (wpAny_setField_rec e1 (by simp) fun g2 e2 s2=>?_);replace s2:Heap.SameBut e g1 g2:=s2;replace e2:IsEnum g2 e it ((i:Int)+1) old:=e2;show wpAny _ _ (setField (.ref e) 4 .none >>= _) _ _ ⟨g2,g,d,tk+1,os⟩;refine wpAny_bind (wpAny_setField_rec e2 (by simp) fun g3 e3 s3=>?_);replace s3:Heap.SameBut e g2 g3:=s3;replace e3:IsEnum g3 e it ((i:Int)+1) old:=e3;refine wpAny_bind (m:=newTuple [.int i tk,x]) (wpAny_newTuple ?_);have e4:IsEnum (g3.push {cls:=.type "tuple",data:=.seq #[.int i tk,x]}) e it ((i:Int)+1) old:=Heap.get?_push_of_some _ e3;have hsz:g3.objs.size=hp.objs.size:=by rw[s3.1,s2.1,s1.1]
 have young:e<hp.objs.size:=Heap.lt_size he;have t4:(g3.push {cls:=.type "tuple",data:=.seq #[.int i tk,x]}).get? hp.objs.size=some {cls:=.type "tuple",data:=.seq #[.int i tk,x]}:=by rw[<-hsz];exact Heap.get?_push_size _ rfl
 have z4:(g3.push {cls:=.type "tuple",data:=.seq #[.int i tk,x]}).objs.size=hp.objs.size+1:=by rw[Heap.size_push,hsz]
 have k4:∀b o,b∉[e,it]->hp.get? b=some o->(g3.push {cls:=.type "tuple",data:=.seq #[.int i tk,x]}).get? b=some o:=fun b o hb q=>by
  simp only[List.mem_cons,List.not_mem_nil,not_or,or_false]at hb;exact Heap.get?_push_of_some _ (s3.extBut b o hb.1 (s2.extBut b o hb.1 (s1.extBut b o hb.2 q)))
 have n4:SubI t (g3.push {cls:=.type "tuple",data:=.seq #[.int i tk,x]}) it l (i+1):=((n1.ext s2.extBut (Ne.symm hne)).ext s3.extBut (Ne.symm hne)).keep fun o q=>Heap.get?_push_of_some _ q;generalize g3.push {cls:=.type "tuple",data:=.seq #[.int i tk,x]}=g4 at e4 t4 z4 k4 n4;show wpAny _ _ (Builtin.SmallTypes.ownedTupleIsFree (.ref e) >>= _) _ _ ⟨g4,g,d,tk+1,os⟩;rw[hsz];refine wpAny_bind (m:=Builtin.SmallTypes.ownedTupleIsFree (.ref e)) (wpAny_bind (m:=field (.ref e) 0) (wpAny_field e4 rfl (x:=.none) rfl (wpAny_pure ?_)));simp only[if_true];refine wpAny_bind (wpAny_rule (wpAny_bind (wpAny_field e4 rfl (x:=old) rfl (wpAny_bind (wpAny_setField_rec e4 (by simp) fun g5 e5 s5=>?_)))));replace s5:Heap.SameBut e g4 g5:=s5;replace e5:IsEnum g5 e it ((i:Int)+1) x:=e5;show wpAny _ _ (Builtin.SmallTypes.ownedTupleHandOut (.ref e) (.ref hp.objs.size) >>= _) _ _ ⟨g5,g,d,tk+1,os⟩;refine wpAny_bind (m:=Builtin.SmallTypes.ownedTupleHandOut (.ref e) (.ref hp.objs.size)) ?_;refine wpAny_bind (m:=setField (.ref e) 0 _) (wpAny_setField_rec e5 (by simp) fun g6 e6 s6=>?_);replace s6:Heap.SameBut e g5 g6:=s6;replace e6:IsEnumOut g6 e it ((i:Int)+1) x hp.objs.size:=e6;refine wpAny_setField_rec e6 (by simp) fun g7 e7 s7=>?_;replace s7:Heap.SameBut e g6 g7:=s7;replace e7:IsEnumOut g7 e it ((i:Int)+1) x hp.objs.size:=e7;have up:∀b o,b≠e->g4.get? b=some o->g7.get? b=some o:=fun b o n q=>s7.extBut b o n (s6.extBut b o n (s5.extBut b o n q));refine wpAny_bind (wpAny_letGo (wpAny_pure ⟨_,rfl,wpAny_pure (hQ g7 e7 (n4.keep fun o q=>up _ o (Ne.symm hne) q) (up _ _ (Nat.ne_of_gt young) t4) (by rw[s7.1,s6.1,s5.1,z4]) fun b o hb q=>up b o (fun z=>hb (by simp[z])) (k4 b o hb q))⟩))
theorem yh(hh:A.handled=none)(Z:qX t e it l i s.heap)(hl:SubS t s.heap l items)(hx:items[i]?=none)
  (hQ:∀hz,Heap.ExtBut it s.heap hz->Q none {s with heap:=hz}):wpAny (model prog w) A (pyNext (.ref e)) Q E s:=by
 obtain⟨⟨old,he⟩,hit⟩:=Z;have hT:s.TypeIs (.ref e) "enumerate" :=(⟨_,he,rfl⟩);unfold pyNext;refine wpAny_bind (wpAny_attempt (wpAny_callSpecial?_slot (name:=Str.ofString "__next__") hT F.slot_enumerate_next (wpAny_call_entry F.slot_enumerate_next hT F.entry_enumerate_next ?_ (F.args_enumerate_next_1 _))));refine wpAny_bind (m:=field (.ref e) 2) (wpAny_field he rfl (x:=.ref it) rfl (wpAny_bind (pj hh hit hl hx fun h' x he' hx'=>?_)));obtain⟨o,ho,hc⟩:=hx';exact wpAny_bind (wpAny_isInstance (T := "StopIteration") (b:=true) ⟨o,ho,hc⟩ isSubtype_stop (wpAny_pure (hQ _ he')))
end
open AutoSeq1 (wpAny_loadPart') in
set_option maxHeartbeats 1100000 in
theorem yt(t:Bool)(l:Addr)(items:Array Value) :
  Meets (Builtin.«enumerate.__new__» ⟨[.type "enumerate",.ref l],[]⟩) (fun _ R s=>SubS t s.heap l items /\
   R (.ok (.ret (.ref (s.heap.push (itO t l)).objs.size))) {s with heap:=(s.heap.push (itO t l)).push {cls:=.type "enumerate",data:=.fields #[.none,.bool false,.ref s.heap.objs.size,rawInt 0,.none,.none]} }) :=
 .of_wp fun prog w A R s h=>by
  rcases s with⟨hp,g,d,tk,os⟩;rcases h with⟨hl,h⟩;have hsub:=sub_enumerate;have hL:SubS t (Shared.heap ⟨hp,g,d,tk,os⟩) l items:=hl
  wp_walk
  refine wpAny_stack_any fun st=>?_;refine wpAny_pure ?_;split
  .rename_i c _ _ _ _ _
   cases c==Value.type "enumerate"
   .wp_walk using c7 hL
    exact⟨_,rfl,h⟩
   .wp_walk using c7 hL
    exact⟨_,rfl,h⟩
  .wp_walk using c7 hL
   exact⟨_,rfl,h⟩
section
variable {prog:Program}{w:World}{A:Around}{E:Value->Shared->Prop}{s:Shared}
theorem vf{Q:Value->Shared->Prop}(hL:SubS t s.heap l items)
  (h:∀h',qX t (s.heap.objs.size+1) s.heap.objs.size l 0 h'->(∀b o,s.heap.get? b=some o->h'.get? b=some o)->Q (.ref (s.heap.objs.size+1)) {s with heap:=h' }):wpAny (model prog w) A (call (.type "enumerate") [.ref l]) Q E s:=by
 refine callType_new F.called_enumerate (by decide) (F.typeCall_enumerate_1 _) (F.newCall_enumerate_1 _) (fun obj=>F.args_object_init_2 obj _) F.entry_enumerate_new (yt t l items) ⟨hL,?_⟩;have hz:(s.heap.push (itO t l)).objs.size=s.heap.objs.size+1:=Heap.size_push ..;show _/\_;rw[hz];have he:((s.heap.push (itO t l)).push {cls:=.type "enumerate",data:=.fields #[.none,.bool false,.ref s.heap.objs.size,rawInt 0,.none,.none]}).get? (s.heap.objs.size+1)=some {cls:=.type "enumerate",data:=.fields #[.none,.bool false,.ref s.heap.objs.size,rawInt 0,.none,.none]}:=by
  rw[<-hz];exact Heap.get?_push_size _ rfl
 have hi:((s.heap.push (itO t l)).push {cls:=.type "enumerate",data:=.fields #[.none,.bool false,.ref s.heap.objs.size,rawInt 0,.none,.none]}).get? s.heap.objs.size=some (itO t l):=Heap.get?_push_of_some _ (Heap.get?_push_size _ rfl);refine⟨⟨_,he,rfl⟩,h _ ⟨⟨.none,he⟩,?_⟩ fun b o x=>Heap.get?_push_of_some _ (Heap.get?_push_of_some _ x)⟩;cases t
 .exact⟨_,hi,rfl,rfl⟩
 .exact⟨_,hi,rfl,rfl⟩
end
def Ite(t:Bool)(K:PySem.W.Frag)(a:Addr):It where
 go:=fun i H=>∃xs x,SqB t K H a xs/\xs[i]?=some x
 yld:=fun i H v H'=>∃T x,v = .ref T/\H T=none/\H'=upd H T (.tup [.int (i:Int),x])/\∀xs,SqB t K H a xs->xs[i]?=some x
 stop:=fun i H=>∃xs,SqB t K H a xs/\xs.length≤i
theorem xh{P:Program}{w:World}{K:PySem.W.Frag}{elts:List Expr}{x1:Nat}{pos:Pos}{a:Addr}(hne:e≠it):Turn P w K (.Tuple elts x1 pos) (Ite t K a) [e,it] e (fun i h=>qX t e it a i h) where
 mem:=by simp
 obj:=fun i h st c hc=>by
  obtain⟨⟨old,he⟩,h1⟩:=st;simp only[List.mem_cons,List.not_mem_nil,or_false]at hc;rcases hc with rfl|rfl
  .exact⟨_,he,fun v q=>by cases q⟩
  .obtain⟨o,vs,e,d⟩:=h1.obj;exact⟨o,e,fun v q=>by rw[d]at q;cases q⟩
 keep:=fun i h h' st k=>by
  obtain⟨⟨old,he⟩,h1⟩:=st;exact⟨⟨old,k e (by simp) _ he⟩,h1.keep fun o q=>k it (by simp) o q⟩
 item:=by
  intro X hP hw hK hc i pins s σ H E I hf st hg;subst hP hw hK;obtain⟨xs,x,hq,hx⟩:=hg;obtain⟨its,rv,p,_⟩:=I.sqb hq;obtain⟨u,eu,ru⟩:=rv.get hx;refine vT st p (x:=u) (by simpa using eu) hne fun h' a1 a2 a3 a4 a5=>⟨.ref s.heap.objs.size,rfl,?_⟩;refine wpAny_letOwnedTupleGo_enum (s:={s with heap:=h',toks:=s.toks+1}) a1 fun h2 b1 sb=>?_;have hfT:H s.heap.objs.size=none:=I.hok.fresh (Nat.le_refl _);have sfp:∀c∈[e,it],c<s.heap.objs.size:=fun c hc=>by
   obtain⟨⟨old,he⟩,h1⟩:=st;simp only[List.mem_cons,List.not_mem_nil,or_false]at hc;rcases hc with rfl|rfl
   .exact Heap.lt_size he
   .obtain⟨o,vs,e,d⟩:=h1.obj;exact Heap.lt_size e
  have nz:∀c∈[e,it],c≠s.heap.objs.size:=fun c hc=>Nat.ne_of_lt (sfp c hc);have up:∀c o,c≠e->h'.get? c=some o->h2.get? c=some o:=fun c o n q=>sb.extBut c o n q;have T2:IsPair h2 s.heap.objs.size (.int i s.toks) u:=up _ _ (Ne.symm (nz e (by simp))) a3;have I0:Inv X pins σ (upd H s.heap.objs.size (.tup [.int (i:Int),x])) {s with heap:=s.heap.push {cls:=.type "tuple",data:=.seq #[.int i s.toks,u]},toks:=s.toks+1} :=
   I.laid (o:=.tup [.int (i:Int),x]) (fun c o q=>Heap.get?_push_of_some _ q) (Nat.le_refl _) ⟨by show 2≤sizeLine;rw[sizeLine_eq];decide,[.int i s.toks,u],.cons ⟨_,rfl⟩ (.cons ru .nil),PlainT.new _ _⟩
  have Il:Inv X pins σ (upd H s.heap.objs.size (.tup [.int (i:Int),x])) {s with heap:=h2,toks:=s.toks+1}:=by
   refine Inv.turneds (s:={s with heap:=s.heap.push {cls:=.type "tuple",data:=.seq #[.int i s.toks,u]},toks:=s.toks+1}) (h':=h2) (t':=s.toks+1) (ch:=[e,it]) I0 (fun c o hc q=>?_) fun c hc=>?_
   .rcases Heap.get?_push_cases q with⟨rfl,rfl⟩|q
    .exact T2
    .exact up c o (fun z=>hc (by simp[z])) (a5 c o hc q)
   .obtain⟨f0,f1⟩:=hf c hc;exact⟨by rw[aw (nz c hc)];exact f0,f1⟩
  refine⟨.ref s.heap.objs.size,upd H s.heap.objs.size (.tup [.int (i:Int),x]),Il,rfl,⟨_,x,rfl,hfT,rfl,fun zs hz=>by rw[I.sqb_inj hz hq];exact hx⟩,⟨⟨u,?_⟩,a2.keep fun o q=>up _ o (Ne.symm hne) q⟩,fun c hc=>?_⟩
  .have:((i+1:Nat):Int)=(i:Int)+1:=by omega
   rw[this];exact b1
  .rw[aw (nz c hc)];exact(hf c hc).1
 done:=by
  intro X hP hw hK hc i pins s σ H E I hf st hg;subst hP hw hK;obtain⟨xs,hq,he⟩:=hg;obtain⟨its,rv,p,_⟩:=I.sqb hq;have l1:=rv.length;exact yh (I.ok.hd hc) st p (by simp;omega) fun h' hk=>⟨rfl,I.turneds (t':=s.toks) (ch:=[e,it]) (fun c o hc q=>hk c o (fun z=>hc (by simp[z])) q) hf⟩
 self:=fun _ _ _ _ _ st h=>by obtain⟨⟨old,he⟩,_⟩:=st;exact wpAny_pyIter_enum he h
section
variable {X:Cx}{elts:List Expr}{x1:Nat}{tpos:Pos}{a:Expr}{ws:WA}{p pos:Pos}
def KU(K:PySem.W.Frag)(ta:TA):TI:=fun σ H Rq=>ta σ H fun vs H1=>∃t l,vs=[.ref l]/\(∃xs,SqB t K H1 l xs)/\Rq (Ite t K l) H1
theorem CQ{ta:TA}(hg:Gl X "enumerate")(hm:X.mg "enumerate" = none)(ha:PA X [a] ta)(hs:starEach [a] X.env=[(false,eval a X.env)]:=by first|exact cv rfl|rfl):PI X (.Tuple elts x1 tpos) (.Call (.Name "enumerate" p) [a] [] pos) (KU X.K ta):=by
 intro pins s σ H Rq I h;refine Call_ (nA I hg hm oi (PyProof.Rows.callWith_type1 (thn (ha pos pins s σ H _ I h) fun us s1 ⟨vs,H1,I1,r1,q1⟩=>?_) hs rfl));obtain⟨t,l,e,⟨xs,h1⟩,q⟩:=q1;subst e
 cases r1 with
 | cons r rr =>
  cases rr;cases r;obtain⟨its,rv,pp,_⟩:=I1.sqb h1;refine vf pp fun h' Z hk=>?_;obtain⟨old,he⟩:=Z.e;refine wpAny_pyIter_enum he ⟨s1.heap.objs.size+1,_,_,_,H1,rfl,I1.kept (t':=s1.toks) hk,xh (Nat.succ_ne_self _),Z,fun c hc=>?_,q⟩;have hle:s1.heap.objs.size≤c:=by
   have hc':c∈([s1.heap.objs.size+1,s1.heap.objs.size]:List Nat):=hc;simp only[List.mem_cons,List.not_mem_nil,or_false]at hc';rcases hc' with rfl|rfl<;>first|exact Nat.le_add_right _ _|exact Nat.le_refl _
  exact I1.fpOk hle (I1.hok.fresh hle)
def ua(ds:List PyData):List PyData:=zipD (ga 0 ds.length) ds
def xJ(ws:WA):WI:=fun m K=>ws m fun rs m'=>on1 (fun r=>∃t ds,imS r=some (t,ds)/\K ⟨ua ds,none⟩ m') rs
theorem du(ds:List PyData):(ua ds).length=ds.length:=by unfold ua;rw[d8,aE];omega
theorem nr{d:PyData}(h:ds[i]?=some d):(ua ds)[i]?=some (.tuple [.int (i:Int),d]):=by
 have hi:=(List.getElem?_eq_some_iff.mp h).1;have:=qM (iz (lo:=0) hi) h;rw[Int.zero_add]at this;exact this
theorem wks_enum{K:Kd}:Wks K (Ite t K l) (ua ds) fun H=>∃xs,SqB t K H l xs/\DenAll K H ds xs where
 stop:=fun H ⟨xs,q,g⟩=>⟨xs,q,by rw[du,g.length];exact Nat.le_refl _⟩
 go:=fun i H hi ⟨xs,q,g⟩=>by
  rw[du]at hi;exact⟨xs,xs[i]'(by rw[<-g.length];exact hi),q,List.getElem?_eq_getElem _⟩
 yld:=fun i H x H' hi ⟨xs,q,g⟩ y=>by
  obtain⟨T,u,rfl,hT,rfl,e1⟩:=y;obtain⟨d,h1,k1⟩:=g.get2 (e1 xs q);have gr:∀b o,H b=some o->upd H T (.tup [.int (i:Int),u]) b=some o:=fun b o q=>by rw[aw (aZ q hT)];exact q
  have pe:Pers H (upd H T (.tup [.int (i:Int),u])):=⟨fun b xs q=>gr b _ q,fun b o u q=>gr b _ q⟩;exact⟨gr,_,nr h1,dg (SqT.of aC) (DenAll.cons (lH _) (DenAll.cons (k1.mono pe) DenAll.nil))⟩
theorem CC(hm:X.mg "enumerate" = none)(ha:MA X [a] ws)(hg:Gl X "enumerate" :=by rfl)(hs:starEach [a] X.env=[(false,eval a X.env)]:=by first|exact cv rfl|rfl):MI X (.Tuple elts x1 tpos) (.Call (.Name "enumerate" p) [a] [] pos) (xJ ws):=(CQ hg hm ha hs).wk fun σ H Rq ⟨α,m,Kc,Rl,hw,fin⟩=>by
 refine⟨α,m,_,Rl,hw,fun rs m' vs H' k n Rl' rr F=>?_⟩;obtain⟨r,v,rfl,rfl,h1,t,ds,e1,k⟩:=dy rr k;obtain⟨l,xs,rfl,g1,q1,p1⟩:=ut h1 e1;refine⟨t,l,rfl,⟨xs,q1⟩,fin _ m' _ H' k n Rl' F ⟨fun H=>∃xs,SqB t X.kx H l xs/\DenAll X.kx H ds xs/\∀H1,Pers H H1->SqB t X.kx H1 l xs,wks_enum.imp fun H ⟨xs,a,c,_⟩=>⟨xs,a,c⟩,⟨xs,q1,g1,p1⟩,fun Ha Hb ⟨xs,a,c,pa⟩ pe=>⟨xs,pa Hb pe,c.mono pe,fun H1 p=>pa H1 (pe.trans p)⟩⟩⟩
theorem xW(hm:X.mg "enumerate" = none)(ha:EA X [a] ws)(hg:Gl X "enumerate" :=by rfl)(hs:starEach [a] X.env=[(false,eval a X.env)]:=by first|exact cv rfl|rfl):EI X (.Tuple elts x1 tpos) (.Call (.Name "enumerate" p) [a] [] pos) (xJ ws):=⟨CC hm ha.h hg hs⟩
theorem FZ{m:MSt}{Ks:Src->MSt->Prop}(h:ws m fun rs m'=>on1 (fun r=>∃t ds,imS r=some (t,ds)/\Ks ⟨ua ds,none⟩ m') rs):xJ ws m Ks:=h
end
section
variable {X:Cx}
def Fo:WC:=fun rs m K=>on1 (fun r=>∃ds ns,sqOf m r=some ds/\cR ds=some ns/\ns≠[]/\∀x,x∈ns->(∀y∈ns,y≤x)->K (.imm (.int x))) rs
theorem fU(hc:X.calm=true):dn X (.builtin "max") (cM X.kx Fo):=by
 rintro pins s σ' H xs us Q I rv ⟨α,m,σ,H0,rs,Kc,Rl,h,ho,fin⟩;obtain⟨r,v,rfl,rfl,h1,ds,ns,e1,e2,hne,ho⟩:=dy h ho;obtain⟨a,ys,rfl,f,g⟩:=h1.seq Rl e1;rw[fH e2]at g;have ey:=dj g;subst ey;have go:∀x,x∈ns->(∀y∈ns,y≤x)->Q (.int x) H:=fun x h1 h2=>fin _ _ H (ho x h1 h2) Rl (di _) (Frm.refl _ _);rcases f with f|f
 .exact mF hc pins s σ' H _ us Q I rv ⟨false,a,ns,rfl,f,hne,go⟩
 .exact mF hc pins s σ' H _ us Q I rv ⟨true,a,ns,rfl,f,hne,go⟩
theorem qx{m:MSt}{r:R}(e1:sqOf m r=some ds)(e2:cR ds=some ns)(hne:ns≠[])(h:∀x,x∈ns->(∀y∈ns,y≤x)->Kr (.imm (.int x))):Fo [r] m Kr:=⟨ds,ns,e1,e2,hne,h⟩
def GN:WC:=fun rs m K=>on1 (fun r=>∃ds ns,sqOf m r=some ds/\cR ds=some ns/\ns≠[]/\∀x,x∈ns->(∀y∈ns,x≤y)->K (.imm (.int x))) rs
theorem sG(hc:X.calm=true):dn X (.builtin "min") (cM X.kx GN):=by
 rintro pins s σ' H xs us Q I rv ⟨α,m,σ,H0,rs,Kc,Rl,h,ho,fin⟩;obtain⟨r,v,rfl,rfl,h1,ds,ns,e1,e2,hne,ho⟩:=dy h ho;obtain⟨a,ys,rfl,f,g⟩:=h1.seq Rl e1;rw[fH e2]at g;have ey:=dj g;subst ey;have go:∀x,x∈ns->(∀y∈ns,x≤y)->Q (.int x) H:=fun x h1 h2=>fin _ _ H (ho x h1 h2) Rl (di _) (Frm.refl _ _);rcases f with f|f
 .exact n6 hc pins s σ' H _ us Q I rv ⟨false,a,ns,rfl,f,hne,go⟩
 .exact n6 hc pins s σ' H _ us Q I rv ⟨true,a,ns,rfl,f,hne,go⟩
theorem Fu{m:MSt}{r:R}(e1:sqOf m r=some ds)(e2:cR ds=some ns)(hne:ns≠[])(h:∀x,x∈ns->(∀y∈ns,x≤y)->Kr (.imm (.int x))):GN [r] m Kr:=⟨ds,ns,e1,e2,hne,h⟩
end
open SeqAt in
open AutoSeq1 (wpAny_loadPart') in
theorem pi(l:Addr)(items:Array Value)(n:Nat)(dd:Option Addr)(sl:Array (Option Value))(x:Value)(e:Value->Bool)(j:Nat)(hj:j<items.size)(hit:e items[j]=true)(hno:∀m (hm:m<items.size),m<j->e items[m]=false) :
  Meets (Builtin.«tuple.index» ⟨[.ref l,x],[]⟩)
   (fun A R s=>s.heap.get? l=some {cls:=.type "tuple",dict:=dd,data:=.seq items n,slots:=sl}/\(∀y,y∈items->EqAt A.in1 s y x (e y))/\R (.ok (.ret (.int j s.toks))) {s with toks:=s.toks+1}) :=
 .of_wp fun prog w A R s h=>by
  rcases s with⟨hp,g,d,tk,os⟩;rcases h with⟨hl,he,h⟩
  (wp_walk using wpAny_loadPart' hl)
  refine(show wpAny (model prog w) A.in1 (forIn ([:min items.size items.size]:Std.Legacy.Range) _ _) _ _ _ from ?_);simp only[Std.Legacy.Range.forIn_eq_forIn_range'];have e1:List.range' (0:Nat) (min items.size items.size) 1=List.range' 0 items.size 1:=by rw[Nat.min_self]
  refine wpAny_forIn_list _ (fun rest (b:Option _×Unit) s'=>b.1=none/\s'=⟨hp,g,d,tk,os⟩/\∃i,i≤j/\rest=List.range' i (items.size-i) 1) _ ?turn ?fin _ _ ?start
  case turn =>
   rintro i rest b s' ⟨hb,rfl,i0,hi0,hr⟩;have hlt:i0<items.size:=by omega
   have hs:items.size-i0=(items.size-(i0+1))+1:=by omega
   rw[hs,List.range'_succ]at hr;cases hr;rw[show items[i]?=some items[i]from Array.getElem?_eq_getElem hlt];refine wpAny_bind (he items[i] (Array.getElem_mem hlt) prog w _ _ ?_)
   by_cases hij:i=j
   .subst hij;rw[hit]
    wp_walk
    exact⟨_,rfl,h⟩
   .rw[hno i hlt (by omega)]
    wp_walk
    exact⟨rfl,rfl,i+1,by omega,rfl⟩
  case fin =>
   rintro⟨b1,b2⟩ s' ⟨hb,rfl,i0,hi0,hr⟩;have:=congrArg List.length hr;simp at this;omega
  case start =>
   refine⟨rfl,rfl,0,Nat.zero_le _,?_⟩;simp[Std.Legacy.Range.size]
section
variable {X:Cx}{o e:Expr}{es:List Expr}{wo:WE}{ws:WA}{apos cpos:Pos}
def wMT(ob:WM)(wo:WE)(ws:WA):WE:=fun m K=>wo m fun r m1=>(∃ds,r = .imm (.tuple ds))/\ws m1 fun rs m2=>ob r rs m2 K
theorem Kl{name:Str}{id:String}(slot:Slot "tuple" name id)(hty:typeOf (.builtin id)=pure (.type "method_descriptor"))(hm:MtM X id (mM X.kx ob))(ho:ME X o wo)(ha:MA X (e::es) ws)
  (hbase:attributeBase o name X.env (eval o X.env)=eval o X.env:=by rfl)
  (hfew:((backTo cpos (starEach (e::es) X.env)).all (fun x=>!x.1)&&(backToKw cpos (keywordEach [] X.env)).all (fun x=>x.1.isSome)
   && decide ((e::es).length+([]:List Keyword).length+(if ([]:List Keyword).isEmpty then 0 else 1)<30))=true:=by rfl)
  (hline:(apos.endLine==cpos.line)=true:=by rfl) (hs:starEach (e::es) X.env=(false,eval e X.env)::starEach es X.env:=by first|exact aV rfl|rfl) (hplain:(backTo cpos (starEach es X.env)).any (·.1)=false:=by rfl) :
  ME X (.Call (.Attribute o name apos) (e::es) [] cpos) (wMT ob wo ws):=(Ic PySem.F.plainAttrs_tuple slot hty hm ho ha hbase hfew hline hs hplain).wk fun σ H Q ⟨α,m,Kc,Rl,hw,fin⟩=>by
 refine⟨α,m,_,Rl,hw,fun r m1 v H1 k n1 Rl1 rr F1=>?_⟩;obtain⟨⟨ds,rfl⟩,k⟩:=k;obtain⟨a,xs,rfl,f,g⟩:=bA (show Den X.kx H1 (.tuple ds) v from rr);refine⟨.inr (.inl ⟨rfl,xs,f⟩),α,m1,_,Rl1,k,fun rs m2 vs H2 k2 n2 Rl2 rr2 F2=>?_⟩;exact⟨α,m2,σ,H,H1,.imm (.tuple ds),rs,Kc,Rl2,rr.keep Rl Rl1 F2,rr2,k2,fun r m' v H' k n Rl' rr' F=>fin r m' v H' k (n.trans (n2.trans n1)) Rl' (rr'.base Rl2 (F1.trans F2)) ((F1.trans F2).trans F)⟩
theorem qw{name:Str}{id:String}(slot:Slot "tuple" name id)(hty:typeOf (.builtin id)=pure (.type "method_descriptor"))(hm:MtM X id (mM X.kx ob))(ho:EE X o wo)(ha:EA X (e::es) ws)
  (hbase:attributeBase o name X.env (eval o X.env)=eval o X.env:=by rfl)
  (hfew:((backTo cpos (starEach (e::es) X.env)).all (fun x=>!x.1)&&(backToKw cpos (keywordEach [] X.env)).all (fun x=>x.1.isSome)
   && decide ((e::es).length+([]:List Keyword).length+(if ([]:List Keyword).isEmpty then 0 else 1)<30))=true:=by rfl)
  (hline:(apos.endLine==cpos.line)=true:=by rfl) (hs:starEach (e::es) X.env=(false,eval e X.env)::starEach es X.env:=by first|exact aV rfl|rfl) (hplain:(backTo cpos (starEach es X.env)).any (·.1)=false:=by rfl) :
  EE X (.Call (.Attribute o name apos) (e::es) [] cpos) (wMT ob wo ws):=⟨Kl slot hty hm ho.h ha.h hbase hfew hline hs hplain⟩
theorem x_mt{m:MSt}(h:wo m fun r m1=>(∃ds,r = .imm (.tuple ds))/\ws m1 fun rs m2=>ob r rs m2 K):wMT ob wo ws m K:=h
theorem x_ts{P:Prop}(h:P):(∃es,R.imm (.tuple ds) = .imm (.tuple es))/\P:=⟨⟨ds,rfl⟩,h⟩
def uA:WM:=fun r rs m K=>on1 (cX fun d=>∃ds j,r = .imm (.tuple ds)/\d.canLay0=true/\PyData.canLayAll0 ds=true/\d.depth≤60/\(∃y,ds[j]?=some y/\PyData.eqv y d=true)/\(∀(i:Nat) y,i<j->ds[i]?=some y->PyData.eqv y d=false)/\K (.imm (.int (j:Nat))) m) rs
theorem fX(hu:X.A.units+64<cLine):MtM X "tuple.index" (mM X.kx uA):=by
 rintro pins s σ' H x xs v us Q I rx rv ⟨α,m,σ,H0,H1,r,rs,Kc,Rl,h1,h2,ho,fin⟩;obtain⟨r2,v2,rfl,rfl,h2,ho⟩:=dy h2 ho;obtain⟨d,rfl,hd,ds,j,rfl,c1,c2,dp,⟨y,ey,eq⟩,hno,ho⟩:=dU h2 ho;obtain⟨a,zs,rfl,f,g⟩:=bA (show Den X.kx H (.tuple ds) x from h1);cases rx;obtain⟨u,rfl,ru⟩:=rv.one;obtain⟨bs,qd⟩:=Den.reads I (PyData.hasDict_of_canLay _ c1) hd ru;obtain⟨its,rvv,⟨o,ho1,hc,hdict,n,hdata⟩,hz⟩:=I.tupleP f;obtain⟨as,rds⟩:=DenAll.reads I (PyData.hasDictAll_of_canLayAll _ c2) g rvv;have hm:X.A.units+1+min (PyData.depthAll ds) d.depth<cLine:=by have:=Nat.min_le_right (PyData.depthAll ds) d.depth;omega
 have hmap:=SeqAt.readsAll_map ds _ _ c2 rds;have hl:its.length=ds.length:=by rw[<-hmap,List.length_map]
 have hj:j<its.length:=by rw[hl];exact(List.getElem?_eq_some_iff.mp ey).1
 have ro:∀(i:Nat) (hi:i<its.length) y,ds[i]?=some y->SeqAt.readOf s.heap its[i]=y:=fun i hi y e=>by
  rw[<-hmap,List.getElem?_map,List.getElem?_eq_getElem hi]at e;exact Option.some.inj e
 obtain⟨cls,dd,data,sl⟩:=o;dsimp only at hc hdata;subst hc;subst hdata;refine call_meets PySem.F.slot_tuple_index ⟨_,ho1,rfl⟩ PySem.F.entry_tuple_index (PySem.F.args_tuple_index_2 _ _)
  (pi a its.toArray _ dd sl u (fun y=>PyData.eqv (SeqAt.readOf s.heap y) d) j (by simpa using hj) ?_ ?_) ⟨ho1,SeqAt.items_eqAt (by simpa using rds) qd c2 c1 hm,?_⟩
 .show PyData.eqv (SeqAt.readOf s.heap its[j]) d=true;rw[ro j hj y ey];exact eq
 .intro i hi hlt;have hi':i<its.length:=by simpa using hi
  show PyData.eqv (SeqAt.readOf s.heap its[i]) d=false;have hi2:i<ds.length:=by rw[<-hl];exact hi'
  rw[ro i hi' _ (List.getElem?_eq_getElem hi2)];exact hno i _ hlt (List.getElem?_eq_getElem hi2)
 .exact⟨.int (j:Nat),H,I.tok _,⟨_,rfl⟩,fin _ _ _ H ho rfl Rl (di _) (Frm.refl _ _)⟩
theorem jl{m:MSt}{d y:PyData}{j k k':Nat}(s1:Shp k d)(s2:∀y∈ds,Shp k' y)(hk:k≤60)(ey:ds[j]?=some y)(eq:PyData.eqv y d=true)(hno:∀(i:Nat) y,i<j->ds[i]?=some y->PyData.eqv y d=false)(h:K (.imm (.int (j:Nat))) m):uA (.imm (.tuple ds)) [.imm d] m K :=
 ⟨ds,j,rfl,s1.cl,(jU s2).1,Nat.le_trans s1.dp hk,⟨y,ey,eq⟩,hno,h⟩
end
theorem tQ:fillsNumberSlot (.type "tuple") "mul" = pure false :=
 PySem.fillsNumberSlot_seq (id := "tuple.__mul__") (r:=some (.builtin "tuple.__rmul__")) PySem.F.slot_tuple_mul.lookup (by decide +kernel) PySem.F.slot_tuple_rmul.lookup (by decide +kernel)
theorem Cj:seqRepeat? (.type "tuple")=pure (some (.builtin "tuple.__mul__")):=by
 unfold seqRepeat?;rw[PySem.seqSlot_of (T := "tuple") (name := "__mul__") (id := "tuple.__mul__") PySem.F.slot_tuple_mul.lookup (by decide +kernel),PySem.seqSlot_of (T := "tuple") (name := "__rmul__") (id := "tuple.__rmul__") PySem.F.slot_tuple_rmul.lookup (by decide +kernel)];rfl
theorem x9(a:Int)(t:Tok)(l:Addr)(items:Array Value)(n:Nat)(dd:Option Addr)(sl:Array (Option Value)) :
  Meets (Builtin.«int.__rmul__» ⟨[.int a t,.ref l],[]⟩) (fun _ R s=>s.heap.get? l=some {cls:=.type "tuple",dict:=dd,data:=.seq items n,slots:=sl}/\R (.ok (.ret Value.notImplemented)) s) :=
 .of_wp fun prog w A R s h=>by
  rcases s with⟨hp,g,d,tk,os⟩;rcases h with⟨hl,h⟩
  wp_walk
  exact⟨_,rfl,h⟩
open AutoSeq1 (wpAny_loadPart') in
theorem Di(l:Addr)(items:Array Value)(n:Nat)(dd:Option Addr)(sl:Array (Option Value))(k:Int)(t:Tok)(h1:0≤k)(h2:k<2^20)(hz:items.size*k.toNat≤1000000) :
  Meets (Builtin.«tuple.__mul__» ⟨[.ref l,.int k t],[]⟩) (fun _ R s=>s.heap.get? l=some {cls:=.type "tuple",dict:=dd,data:=.seq items n,slots:=sl} /\
   if (items.isEmpty||k==1)=true then R (.ok (.ret (.ref l))) s else R (.ok (.ret (.ref s.heap.objs.size))) {s with heap:=s.heap.push {cls:=.type "tuple",data:=.seq ((List.replicate k.toNat items).foldl (fun x1 x2=>x1++x2) #[])} }) :=
 .of_wp fun prog w A R s h=>by
  rcases s with⟨hp,g,d,tk,os⟩;rcases h with⟨hl,h⟩
  (wp_walk using wpAny_loadPart' hl)
  have hT:(⟨hp,g,d,tk,os⟩:Shared).TypeIs (.ref l) "tuple" :=(⟨_,hl,rfl⟩);have hIs:IsTup (⟨hp,g,d,tk,os⟩:Shared).heap l items:=⟨_,hl,rfl,n,rfl⟩;have hsz:((items.size:Nat):Int)*k≤1000000:=by
   have ek:k=((k.toNat:Nat):Int):=by omega
   rw[ek,<-Int.natCast_mul];omega
  rw[if_neg (show ¬_ by simp only[decide_eq_true_eq,Bool.or_eq_true];omega)];refine wpAny_bind (tupleItemsOf_ hIs ?_)
  by_cases hc:(items.isEmpty||k==1)=true
  .rw[if_pos hc]at h⊢;refine wpAny_bind ?_;unfold Builtin.Tuple.tupleIsExact;refine wpAny_bind (wpAny_typeOf hT (wpAny_pure ?_));rw[if_pos (by rfl)];exact wpAny_bind (wpAny_rule (wpAny_pure ⟨_,rfl,h⟩))
  .rw[if_neg hc]at h⊢;have he:items.isEmpty=false:=by
    cases q:items.isEmpty with
    |false=>rfl
    |true=>rw[q]at hc;exact(hc rfl).elim
   by_cases hk0:k=0
   .subst hk0;show wpAny _ _ (if (decide ((0:Int)≤0)||items.isEmpty)=true then _ else _) _ _ _;rw[if_pos (by rfl)];exact wpAny_bind (m:=Builtin.Tuple.tupleExact #[]) (wpAny_newObj_type (wpAny_pure ⟨_,rfl,h⟩) (by show(0:Nat)≤sizeLine;exact Nat.zero_le _))
   have e1:(decide (k≤0)||items.isEmpty)=false:=by rw[he,decide_eq_false (by omega)];rfl
   have hlen:∀(m:Nat) (acc:Array Value),(List.foldl (fun x1 x2=>x1++x2) acc (List.replicate m items)).size=acc.size+m*items.size:=by
    intro m
    induction m with
    |zero=>intro acc;simp
    |succ m ih=>intro acc;rw[List.replicate_succ,List.foldl_cons,ih,Array.size_append,Nat.succ_mul];omega
   have hbig:((List.replicate k.toNat items).foldl (fun x1 x2=>x1++x2) #[]).size≤sizeLine:=by
    rw[hlen,sizeLine_eq,Nat.mul_comm];simp;omega
   show wpAny _ _ (if (decide (k≤0)||items.isEmpty)=true then _ else _) _ _ _;rw[if_neg (by rw[e1];exact Bool.false_ne_true)];show wpAny _ _ (if ((items.size:Nat):Int)*k>(2^63-1)/8 then _ else _) _ _ _;rw[if_neg (by omega)];show wpAny _ _ (if Builtin.Tuple.tupleTooMany (((items.size:Nat):Int)*k)=true then _ else _) _ _ _;rw[if_neg (by unfold Builtin.Tuple.tupleTooMany;rw[decide_eq_true_eq,sizeLine_eq];omega)];exact wpAny_bind (m:=Builtin.Tuple.tupleExact _) (wpAny_newObj_type (wpAny_pure ⟨_,rfl,h⟩) hbig)
section
variable {X:Cx}
def KQ(K:PySem.W.Frag):R2:=fun x y H Q=>∃a xs k,x = .ref a/\y = .int k/\SqT K H a xs/\0≤k/\k<2^20/\xs.length*k.toNat≤1000000 /\
 if (xs.isEmpty||k==1)=true then Q (.ref a) H else ∀p,H p=none->Q (.ref p) (upd H p (.tup (List.replicate k.toNat xs).flatten))
theorem BM:OpR X (binaryOp .Mult) (KQ X.K):=by
 intro pins s σ H x y v u Q I rx ry h;obtain⟨a,xs,k,rfl,rfl,hq,h1,h2,hz,q⟩:=h;cases rx;obtain⟨t,rfl⟩:=ry;obtain⟨its,r,⟨o,ho,hc,hd,n,hdt⟩,hsz⟩:=I.tupleP hq;obtain⟨cls,dd,data,sl⟩:=o;dsimp only at hc hdt;subst hc hdt;have hl:xs.length=its.length:=r.length;have hem:its.toArray.isEmpty=xs.isEmpty:=by
  cases its with
  |nil=>have:xs=[]:=List.eq_nil_of_length_eq_zero (by simpa using hl);subst this;rfl
  |cons _ _=>cases xs with
   |nil=>simp at hl
   |cons _ _=>rfl
 have hnew:List.foldl (fun x1 x2=>x1++x2) #[] (List.replicate k.toNat its.toArray)=(List.replicate k.toNat its).flatten.toArray:=by
  have:=j3 its k.toNat [];rw[List.nil_append]at this;exact this
 refine wpAny_binaryOp_repeat_ref (T := "tuple") (U := "int") (by decide) ⟨_,ho,rfl⟩ (fun s'=>typeIs_int s' k t) tQ PySem.F.fills_int_mul PySem.F.slot_int_rmul Cj PySem.F.slot_int_index.lookup
  (call_meets PySem.F.slot_int_rmul (typeIs_int s k t) PySem.F.entry_int_rmul (PySem.F.args_int_rmul_2 _ _) (x9 k t a its.toArray n dd sl)
   ⟨ho,rfl,⟨_,ho,rfl⟩,call_meets PySem.F.slot_tuple_mul ⟨_,ho,rfl⟩ PySem.F.entry_tuple_mul (PySem.F.args_tuple_mul_2 _ _) (Di a its.toArray n dd sl k t h1 h2 (by rw[List.size_toArray,<-hl];exact hz)) ⟨ho,?_⟩⟩)
 rw[hem,hnew]
 by_cases hc:(xs.isEmpty||k==1)=true
 .rw[if_pos hc]at q⊢;exact⟨.ref a,H,I,rfl,q⟩
 .rw[if_neg hc]at q⊢;have hp:H s.heap.objs.size=none:=I.hok.fresh (Nat.le_refl _);refine⟨.ref s.heap.objs.size,_,I.laid (t':=s.toks) (o:=.tup (List.replicate k.toNat xs).flatten) (fun b ob e=>Heap.get?_push_of_some _ e) (Nat.le_refl _) ⟨?_,_,r.rep k.toNat,PlainT.new _ _⟩,rfl,q _ hp⟩;rw[w4,Nat.mul_comm,sizeLine_eq];omega
def uK:WO
 | .imm (.int i),.imm (.int j),_,K=>IntMulOk i j/\K (.imm (.int (i*j)))
 | .imm (.tuple ds),.imm (.int k),_,K=>0≤k/\k<2^20/\ds.length*k.toNat≤1000000/\K (.imm (.tuple (List.replicate k.toNat ds).flatten))
 | .new ds,.imm (.int k),_,K=>0≤k/\k<2^20/\ds.length*k.toNat≤1000000/\K (.new (List.replicate k.toNat ds).flatten)
 |_,_,_,_=>False
theorem iw{K:Kd}{H:Hp}{ds:List PyData}{xs:List V}(g:DenAll K H ds xs):∀k:Nat,DenAll K H (List.replicate k ds).flatten (List.replicate k xs).flatten
 |0=>by simp only[List.replicate_zero,List.flatten_nil,DenAll]
 |k+1=>by rw[List.replicate_succ,List.replicate_succ,List.flatten_cons,List.flatten_cons];exact g.append (iw g k)
theorem av:OpR X (binaryOp .Mult) (rM X.kx uK):=by
 rintro pins s σ' H x y v u Q I rx ry ⟨α,m,σ,H0,H1,r1,r2,Kc,Rl,h1,h2,ho,fin⟩;unfold uK at ho
 split at ho
 .rename_i i j;exact BR pins s σ' H x y v u Q I rx ry ⟨α,m,σ,H0,H1,.imm (.int i),.imm (.int j),Kc,Rl,h1,h2,ho,fin⟩
 .rename_i ds k;obtain⟨k1,k2,k3,ho⟩:=ho;obtain⟨a,xs,rfl,f,g⟩:=bA (show Den X.kx H (.tuple ds) x from h1);have e2:=aL (show Den X.kx H (.int k) y from h2);subst e2;refine BM pins s σ' H _ _ v u Q I rx ry ⟨a,xs,k,rfl,rfl,f,k1,k2,by rw[<-g.length];exact k3,?_⟩
  by_cases hc:(xs.isEmpty||k==1)=true
  .rw[if_pos hc];refine fin _ _ H ho Rl (ko (dg f ?_)) (Frm.refl _ _);have e:(List.replicate k.toNat ds).flatten=ds:=by
    rw[Bool.or_eq_true]at hc;rcases hc with hc|hc
    .have hx:xs=[]:=List.isEmpty_iff.mp hc;have hd:ds=[]:=List.eq_nil_of_length_eq_zero (by rw[g.length,hx];rfl);subst hd;simp
    .have:k=1:=by simpa using hc
     subst this;simp
   rw[e];exact g
  .rw[if_neg hc];exact fun p hp=>fin _ _ _ ho (Rl.lay hp) (ko (dg (SqT.of aC) ((iw g k.toNat).mono (bx (.inl hp))))) (cW hp)
 .rename_i ds k;obtain⟨k1,k2,k3,ho⟩:=ho;obtain⟨a,xs,rfl,hb,hH,g⟩:=h1;have e2:=aL (show Den X.kx H (.int k) y from h2);subst e2;refine FJ pins s σ' H _ _ v u Q I rx ry ⟨a,k,xs,rfl,rfl,hH,by omega,by omega,by rw[<-g.length,sizeLine_eq];omega,fun p hp=>?_⟩;exact fin _ _ _ ho (Rl.lay hp) ⟨p,_,rfl,hp,aC,(iw g k.toNat).mono (bx (.inl hp))⟩ (cW hp)
 .exact ho.elim
theorem bC{m:MSt}{i j:Int}(hc:IntMulOk i j)(h:Kr (.imm (.int (i*j)))):uK (.imm (.int i)) (.imm (.int j)) m Kr:=⟨hc,h⟩
theorem z6{m:MSt}{k:Int}(h1:0≤k)(h2:k<2^20)(h3:ds.length*k.toNat≤1000000)(h:Kr (.imm (.tuple (List.replicate k.toNat ds).flatten))):uK (.imm (.tuple ds)) (.imm (.int k)) m Kr:=⟨h1,h2,h3,h⟩
theorem Gy{m:MSt}{k:Int}(h1:0≤k)(h2:k<2^20)(h3:ds.length*k.toNat≤1000000)(h:Kr (.new (List.replicate k.toNat ds).flatten)):uK (.new ds) (.imm (.int k)) m Kr:=⟨h1,h2,h3,h⟩
end
end L2
namespace K
open PySem L2 M7
variable{l:List Nat}{h:Hall}{p:Nat×Nat}{r:Rule}{t:Nat}
inductive Mv where
 |come (o:List Nat)|done (k:Nat)|still
def Mv.d:Mv->PyData
 | .come o=>.tuple [.str "come",lnD o]
 | .done k=>.tuple [.str "done",.int (k:Int)]
 | .still=>.tuple [.str "still"]
def Mv.Ok(h:Hall):Mv->Prop
 | .come o=>Ord h.ss.length o
 | .done k=>k<h.ss.length
 | .still=>True
inductive Wd where
 |taken|away|served|none
def Wd.s:Wd->Str
 | .taken => "taken" | .away => "away" | .served => "served" | .none => "none"
def Hall.rn(h:Hall)(k:Nat):Nat:=h.rs.getD k 0
def cj(h:Hall)(l:List Nat)(k:Nat):List Nat×Wd:=if l.getD k 0=h.rn k then(l,.away)else(l.set k (l.getD k 0+1),.taken)
def b7(l:List Nat)(k:Nat):List Nat×Wd:=if l.getD k 0=0 then(l,.none)else(l.set k (l.getD k 0-1),.served)
def idx(l:List Nat)(x:Nat):Nat:=l.findIdx (fun y=>y==x)
def maxN(l:List Nat):Nat:=l.foldl max 0
def cK(h:Hall)(l:List Nat):Option (Nat×Nat):=if h.mv=true/\0∈l/\2≤maxN l then some (idx l (maxN l),idx l 0)else none
def ca(l:List Nat)(p:Nat×Nat):List Nat:=(l.set p.1 (l.getD p.1 0-1)).set p.2 ((l.set p.1 (l.getD p.1 0-1)).getD p.2 0+1)
def cw(h:Hall):Nat->List Nat->List Nat
 |0,l=>l
 |n+1,l=>match cK h l with
  |none=>l
  |some p=>cw h n (ca l p)
def cy(h:Hall)(l:List Nat):List Nat:=cw h (l.count 0) l
theorem jZ:∀(l:List Nat) (a:Nat),a≤l.foldl max a/\(∀x∈l,x≤l.foldl max a)/\(l.foldl max a=a\/l.foldl max a∈l)
 |[],a=>⟨Nat.le_refl _,(fun _ h=>by cases h),.inl rfl⟩
 | y::l,a=>by
  obtain⟨h1,h2,h3⟩:=jZ l (max a y);refine⟨Nat.le_trans (Nat.le_max_left a y) h1,fun x hx=>?_,?_⟩
  .rcases List.mem_cons.mp hx with rfl|hx
   .exact Nat.le_trans (Nat.le_max_right a x) h1
   .exact h2 x hx
  .rcases h3 with h3|h3
   .show(List.foldl max (max a y) l=a)\/_;rw[h3]
    by_cases hy:a≤y
    .right;show List.foldl max (max a y) l∈y::l;rw[h3,Nat.max_eq_right hy];exact List.mem_cons_self
    .left;exact Nat.max_eq_left (by omega)
   .exact .inr (List.mem_cons_of_mem _ h3)
theorem pc:∀x∈l,x≤maxN l:=(jZ l 0).2.1
theorem gF(h:l≠[]):maxN l∈l:=by
 rcases (jZ l 0).2.2 with e|e
 .cases l with
  |nil=>exact(h rfl).elim
  |cons x l =>
   have:x≤maxN (x::l):=pc x List.mem_cons_self;have e':maxN (x::l)=0:=e;have hx:x=0:=by omega
   rw[e',<-hx];exact List.mem_cons_self
 .exact e
theorem fM{x:Nat}(h:x∈l):l[idx l x]?=some x/\∀i y,i<idx l x->l[i]?=some y->y≠x:=by
 have hlt:idx l x<l.length:=List.findIdx_lt_length_of_exists ⟨x,h,by simp⟩;refine⟨?_,fun i y hi hy e=>?_⟩
 .rw[List.getElem?_eq_getElem hlt];have:=List.findIdx_getElem (w:=hlt);simp at this;exact congrArg some this
 .subst e;have:=List.not_of_lt_findIdx hi;have hi':i<l.length:=by have:idx l y<l.length:=hlt;omega
  rw[List.getElem?_eq_getElem hi']at hy;simp at this;exact this (Option.some.inj hy)
theorem cb(a b:Nat):PyData.eqv (.int (a:Int)) (.int (b:Int))=decide (a=b):=by
 simp only[PyData.eqv]
 by_cases h:a=b
 .subst h;simp
 .have:¬((a:Int)=(b:Int)):=fun z=>h (Int.ofNat.inj z);simp[h,this]
theorem d6(l:List Nat):∀y∈natD l,Shp 0 y:=fun y hy=>by
 obtain⟨x,_,rfl⟩:=List.mem_map.mp hy;exact d7 _
theorem qB(l:List Nat)(k x:Nat):(natD l).set k (.int (x:Int))=natD (l.set k x):=by
 unfold natD;rw[List.map_set]
def i5:SpM:=fun as K=>∃(l:List Nat) (k:Nat) (d:Int) (x:Nat),as=[.imm (lnD l),.imm (.int (k:Int)),.imm (.int d)]/\k<l.length/\l.length≤1000/\(l.getD k 0:Int)+d=(x:Int)/\K (.imm (lnD (l.set k x))) []
def lwD(p:List Nat×Wd):PyData:=.tuple [lnD p.1,.str p.2.s]
def z9:SpM:=fun as K=>∃(h:Hall) (l:List Nat) (k:Nat),as=[.imm h.d,.imm (lnD l),.imm (.int (k:Int))]/\h.Ok/\Lines h l/\k<h.ss.length/\K (.imm (lwD (cj h l k))) []
def Aa:SpM:=fun as K=>∃(l:List Nat) (k:Nat),as=[.imm (lnD l),.imm (.int (k:Int))]/\k<l.length/\l.length≤1000/\K (.imm (lwD (b7 l k))) []
def optP:Option (Nat×Nat)->PyData
 |none=>.none
 |some p=>.tuple [.int (p.1:Int),.int (p.2:Int)]
def vy:SpM:=fun as K=>∃(h:Hall) (l:List Nat),as=[.imm h.d,.imm (lnD l)]/\l≠[]/\l.length≤1000/\K (.imm (optP (cK h l))) []
def mZ:SpM:=fun as K=>∃(h:Hall) (l:List Nat),as=[.imm h.d,.imm (lnD l)]/\l≠[]/\l.length≤1000/\K (.imm (lnD (cy h l))) []
theorem dQ(e:cK h l=some p):h.mv=true/\l[p.1]?=some (maxN l)/\2≤maxN l/\l[p.2]?=some 0/\p.1≠p.2:=by
 unfold cK at e
 split at e
 .rename_i q;obtain⟨q1,q2,q3⟩:=q;have hne:l≠[]:=fun z=>by rw[z]at q2;cases q2
  have s1:=(fM (gF hne)).1;have s0:=(fM q2).1;cases e;refine⟨q1,s1,q3,s0,fun z=>?_⟩;have z':idx l (maxN l)=idx l 0:=z;rw[z',s0]at s1;have:=Option.some.inj s1;omega
 .cases e
theorem fG(e:cK h l=some p):ca l p=(l.set p.1 (maxN l-1)).set p.2 1/\p.1<l.length/\p.2<l.length/\(ca l p).count 0+1=l.count 0/\(ca l p).length=l.length:=by
 obtain⟨h0,h1,h2,h3,h4⟩:=dQ e;have l1:=(List.getElem?_eq_some_iff.mp h1).1;have l2:=(List.getElem?_eq_some_iff.mp h3).1;have g1:l.getD p.1 0=maxN l:=bM h1;have g2:(l.set p.1 (maxN l-1)).getD p.2 0=0:=bM (by rw[List.getElem?_set_ne h4];exact h3);have es:ca l p=(l.set p.1 (maxN l-1)).set p.2 1:=by unfold ca;rw[g1,g2]
 have v1:l[p.1]=maxN l:=by rw[List.getElem?_eq_getElem l1]at h1;exact Option.some.inj h1
 have v2:l[p.2]=0:=by rw[List.getElem?_eq_getElem l2]at h3;exact Option.some.inj h3
 refine⟨es,l1,l2,?_,by rw[es,List.length_set,List.length_set]⟩;have c0:0<l.count 0:=List.count_pos_iff.mpr (List.mem_of_getElem? h3);have l2':p.2<(l.set p.1 (maxN l-1)).length:=by rw[List.length_set];exact l2
 have v2':(l.set p.1 (maxN l-1))[p.2]=0:=by rw[List.getElem_set_ne h4];exact v2
 rw[es,List.count_set l2',List.count_set l1,v2',v1];have d1:(maxN l==0)=false:=by simp;omega
 have d2:(maxN l-1==0)=false:=by simp;omega
 rw[d1,d2];simp;omega
theorem iY(e:cK h l=none):∀n,cw h n l=l
 |0=>rfl
 |n+1=>by simp[cw,e]
def oa(h:Hall)(r:Rule)(t:Nat):Nat:=match r with
 | .turns=>(t+1)%h.ss.length
 |_=>t
def wN:SpM:=fun as K=>∃(h:Hall) (r:Rule) (t:Nat),as=[.imm h.d,.imm r.d,.imm (.int (t:Int))]/\h.Ok/\K (.imm (.int (oa h r t:Nat))) []
def yb(h:Hall)(r:Rule)(l:List Nat)(t:Nat):Mv->PyData
 | .come o=>.int (sent h r l t o:Nat)
 | .done k=>.int (k:Int)
 | .still=>.none
def sj:SpM:=fun as K=>∃(h:Hall) (r:Rule) (l:List Nat) (t:Nat) (mv:Mv),as=[.imm h.d,.imm r.d,.imm (stD l t),.imm mv.d]/\h.Ok/\r.Ok h/\Lines h l/\mv.Ok h/\K (.imm (yb h r l t mv)) []
def bO(h:Hall)(r:Rule)(l:List Nat)(t:Nat):Mv->List Nat×Nat×Wd
 | .come o=>(cy h (cj h l (sent h r l t o)).1,oa h r t,(cj h l (sent h r l t o)).2)
 | .done k=>(cy h (b7 l k).1,t,(b7 l k).2)
 | .still=>(cy h l,t,.none)
def mvD(p:List Nat×Nat×Wd):PyData:=.tuple [stD p.1 p.2.1,.str p.2.2.s]
def vG:SpM:=fun as K=>∃(h:Hall) (r:Rule) (l:List Nat) (t:Nat) (mv:Mv),as=[.imm h.d,.imm r.d,.imm (stD l t),.imm mv.d]/\h.Ok/\r.Ok h/\Lines h l/\mv.Ok h/\(r = .turns->t<h.ss.length)/\K (.imm (mvD (bO h r l t mv))) []
theorem me{o:List Nat}(ho:h.Ok)(hr:r.Ok h)(hL:Lines h l)(hO:Ord h.ss.length o)(ht:r = .turns->t<h.ss.length):sent h r l t o<h.ss.length:=by
 cases r with
 |random=>obtain⟨k0,k1,rfl,h0⟩:=hO.cons;exact h0
 |turns=>exact ht rfl
 |two=>exact fB (lt:=bg l) hO 2
 |least=>have:=fB (lt:=bg l) hO o.length;rw[List.take_length]at this;exact this
 |quick=>have:=fB (lt:=bF h l) hO o.length;rw[List.take_length]at this;exact this
 |told ps =>
  have hlt:placeF 0 h.rs l<ps.length:=by rw[hr.1,allR_cnt];exact place_lt hL.fits
  exact hr.2 _ (List.mem_of_getElem? (getN rfl hlt))
theorem Lines.set{k x:Nat}(hL:Lines h l)(hx:∀s,h.ss[k]?=some s->x≤s.r):Lines h (l.set k x):=by
 refine⟨by rw[List.length_set];exact hL.1,fun i s y e1 e2=>?_⟩
 by_cases hi:k=i
 .subst hi;have hlt:k<l.length:=by rw[hL.1];exact(List.getElem?_eq_some_iff.mp e1).1
  rw[List.getElem?_set_self hlt]at e2;cases e2;exact hx s e1
 .rw[List.getElem?_set_ne hi]at e2;exact hL.2 i s y e1 e2
theorem Lines.at{k:Nat}(hL:Lines h l)(hk:k<h.ss.length):∃s,h.ss[k]?=some s/\l.getD k 0≤s.r/\h.rn k=s.r/\s∈h.ss:=by
 obtain⟨s,es,ea,eb,hs⟩:=h.srv hk;exact⟨s,es,hL.2 k s _ es (getN hL.1 hk),bM (Hall.rs_get es),hs⟩
theorem sW{k:Nat}(hL:Lines h l)(hk:k<h.ss.length):Lines h (cj h l k).1:=by
 obtain⟨s,es,hle,er,hs⟩:=hL.at hk;unfold cj;split
 .exact hL
 .rename_i hne;refine hL.set fun s' e'=>?_;rw[es]at e';cases e';omega
theorem tm{k:Nat}(hL:Lines h l)(hk:k<h.ss.length):Lines h (b7 l k).1:=by
 obtain⟨s,es,hle,er,hs⟩:=hL.at hk;unfold b7;split
 .exact hL
 .refine hL.set fun s' e'=>?_;rw[es]at e';cases e';omega
theorem gV{h:Hall}(ho:h.Ok):∀(n:Nat) (l:List Nat),Lines h l->Lines h (cw h n l)
 |0,l,hL=>hL
 | n+1,l,hL=>by
  simp only[cw]
  cases e:cK h l with
  |none=>exact hL
  |some p =>
   obtain⟨es,l1,l2,hc,hlen⟩:=fG e;obtain⟨m0,m1,m2,m3,m4⟩:=dQ e;refine gV ho n _ ?_;rw[es];refine(hL.set (k:=p.1) (x:=maxN l-1) fun s e1=>?_).set fun s e1=>(ho.ok s (List.mem_of_getElem? e1)).r1;have:=hL.2 p.1 s _ e1 m1;omega
theorem ft(ho:h.Ok)(hL:Lines h l):Lines h (cy h l):=gV ho _ _ hL
structure St(h:Hall)(r:Rule)(l:List Nat)(t:Nat):Prop where
 ln:Lines h l
 tn:r = .turns->t<h.ss.length
 ts:t<4
theorem zx(ho:h.Ok)(hs:t<4)(ht:r = .turns->t<h.ss.length):(r = .turns->oa h r t<h.ss.length)/\oa h r t<4:=by
 have n1:=ho.n1;have n4:=ho.n4
 cases r with
 |turns =>
  have:=Nat.mod_lt (t+1) (show h.ss.length>0 by omega);exact⟨fun _=>this,by show(t+1)%h.ss.length<4;omega⟩
 |_=>exact⟨(fun z=>by cases z),hs⟩
theorem l5(ho:h.Ok)(hr:r.Ok h)(S:St h r l t){mv:Mv}(hm:mv.Ok h):St h r (bO h r l t mv).1 (bO h r l t mv).2.1:=by
 cases mv with
 |come o =>
  have:=zx ho S.ts S.tn;exact⟨ft ho (sW S.ln (me ho hr S.ln hm S.tn)),this.1,this.2⟩
 |done k=>exact⟨ft ho (tm S.ln hm),S.tn,S.ts⟩
 |still=>exact⟨ft ho S.ln,S.tn,S.ts⟩
def zer(h:Hall):List Nat:=List.replicate h.ss.length 0
theorem ls(ho:h.Ok)(r:Rule):St h r (zer h) 0:=by
 refine⟨⟨by simp[zer],fun i s x e1 e2=>?_⟩,fun _=>ho.n1,by decide⟩;have:x=0:=by
  have:=List.mem_of_getElem? e2;unfold zer at this;exact(List.mem_replicate.mp this).2
 omega
def uy:SpM:=fun as K=>∃h:Hall,as=[.imm h.d]/\h.Ok/\K (.imm (stD (zer h) 0)) []
def TapeD(c:Nat)(ds:List PyData):Prop:=∃(ns:List Int) (p q:Int),ds=[.list (ns.map .int),.int p,.int q]/\ns.length≤63/\0≤p/\p≤c/\0≤q
theorem TapeD.mono{c c':Nat}{ds:List PyData}(h:TapeD c ds)(hc:c≤c'):TapeD c' ds:=by
 obtain⟨ns,p,q,e,h1,h2,h3,h4⟩:=h;exact⟨ns,p,q,e,h1,h2,by omega,h4⟩
def Au:SpM:=fun as K=>∃ns:List Int,as=[.imm (.list (ns.map .int))]/\ns.length≤63/\∀ds,TapeD 0 ds->K (.new ds) []
def jG:SpM:=fun as K=>∃(ds:List PyData) (m:Int) (c:Nat),as=[.own ds,.imm (.int m)]/\TapeD c ds/\c<1000000000/\0<m/\m<1099511627776/\∀(r:Int) (ds':List PyData),0≤r->r<m->TapeD (c+1) ds'->K (.imm (.int r)) [ds']
def Dy:SpM:=fun as K=>∃a b:Nat,as=[.imm (.int a),.imm (.int b)]/\K (.imm (.int (a.gcd b:Nat))) []
def zG(ms:List (List Nat)):Prop:=ms≠[]/\ms.length≤1000/\∀rs∈ms,1≤rs.length/\rs.length≤4/\∀r∈rs,1≤r/\r≤6
def lh:SpM:=fun as K=>∃(h:Hall) (l:List Nat),as=[.imm h.d,.imm (lnD l)]/\l≠[]/\l.length≤1000/\K (.imm (lnD (cy h l))) []
theorem sumZ:∀l:List Nat,(l.map fun(x:Nat)=>(x:Int)).sum=((l.sum:Nat):Int)
 |[]=>rfl
 |x::l=>by rw[List.map_cons,List.sum_cons,List.sum_cons,sumZ l,Int.natCast_add]
theorem zP:∀{l:List Nat}{N:Nat},(∀x∈l,x≤N)->l.sum≤N*l.length
 |[],N,_=>Nat.zero_le _
 |x::l,N,h=>by
  have h1:=h x List.mem_cons_self;have h2:=zP (l:=l) fun y hy=>h y (List.mem_cons_of_mem _ hy);rw[List.sum_cons,List.length_cons,Nat.mul_succ];omega
theorem lW:∀{l:List Nat}{x:Nat},x∈l->x≤l.sum
 |y::l,x,h=>by
  rw[List.sum_cons];obtain rfl|h:=List.mem_cons.mp h
  .omega
  .have:=lW h;omega
theorem w5(l:List Nat):cR (natD l)=some (l.map fun(x:Nat)=>(x:Int)):=by
 have:=cz (l.map fun(x:Nat)=>(x:Int));rwa[List.map_map]at this
def cutN(b:Nat)(p:Nat):Nat×Nat:=(p/p.gcd b,b/p.gcd b)
theorem lm{b p:Nat}(h1:1≤p)(h2:p<1000000)(h3:1≤b)(h4:b<1000000):1≤(cutN b p).1/\(cutN b p).1<1000000/\1≤(cutN b p).2/\(cutN b p).2<1000000:=by
 have g1:0<p.gcd b:=Nat.gcd_pos_of_pos_right _ h3;have g2:p.gcd b≤b:=Nat.gcd_le_right _ h3;have g3:p.gcd b≤p:=Nat.gcd_le_left _ h1;have d1:=Nat.div_le_self p (p.gcd b);have d2:=Nat.div_le_self b (p.gcd b);exact⟨Nat.div_pos g3 g1,by show p/p.gcd b<1000000;omega,Nat.div_pos g2 g1,by show b/p.gcd b<1000000;omega⟩
theorem qZ{α:Type}(n:Nat)(x:α):(List.replicate n [x]).flatten=List.replicate n x:=by
 induction n with
 |zero=>rfl
 |succ n ih=>rw[List.replicate_succ,List.flatten_cons,ih,List.replicate_succ];rfl
theorem x6(n x:Nat):List.replicate n (PyData.int (x:Int))=natD (List.replicate n x):=by unfold natD;rw[List.map_replicate]
def Ig(p:Nat×Nat)(r:Nat):Srv:=⟨p.1,p.2,r⟩
theorem yY{r:Nat}(h:1≤p.1/\p.1<1000000/\1≤p.2/\p.2<1000000)(hr:1≤r/\r≤6):(Ig p r).Ok:=⟨h.1,h.2.1,h.2.2.1,h.2.2.2,hr.1,hr.2⟩
end K
namespace L2
open PySem PySem.Spec PyProof.Rows
variable{x:Str}
section
variable {X:Cx}{a:Expr}{es:List Expr}{ws:WA}{pos p p2 p3:Pos}
def Lb(K:PySem.W.Frag):List V->Hp->VK->Prop:=fun xs H Q=>∃(t:Bool) (l:Addr) (ns:List Int),xs=[.ref l]/\SqB t K H l (ns.map V.int)/\Q (.int ns.sum) H
theorem j5(ns:List Int):∀n,n≤ns.length->preSum (fun i=>ns.getD i 0) n=(ns.take n).sum
 |0,_=>by simp[preSum]
 |n+1,h=>by
  show preSum (fun i=>ns.getD i 0) n+ns.getD n 0=_;have hn:n<ns.length:=by omega
  rw[j5 ns n (by omega),List.take_add_one,List.getElem?_eq_getElem hn,bM (List.getElem?_eq_getElem hn),List.sum_append];simp
theorem oG(hc:X.calm=true):dn X (.builtin "sum") (Lb X.K):=by
 rintro pins s σ H xs us Q I rv ⟨t,l,ns,ex,hq,q⟩;subst ex;obtain⟨u,rfl,ru⟩:=rv.one;cases ru;obtain⟨its,rvv,pl,_⟩:=I.sqb hq;have hi:IntsAre its.toArray.toList ns:=fI rvv;have hl:its.length=ns.length:=by have:=rvv.length;rw[List.length_map]at this;omega
 refine call_sum_walkG (lg pl fun s2 e st hfp hlI=>?_);subst e;refine⟨s.heap.objs.size,[s.heap.objs.size,l],[s.heap.objs.size],its.toArray.size,fun i v=>its.toArray[i]?=some v,fun i h=>SubI t h s.heap.objs.size l i/\SubS t h l its.toArray,fun i=>ns.getD i 0,rfl,jL (A:=X.A.in1) t (I.ok.hd hc) _ l hlI its.toArray,st,hfp,jQ hi,fun h' tk t' hk=>?_⟩;have e:preSum (fun i=>ns.getD i 0) its.toArray.size=ns.sum:=by
  rw[List.size_toArray,hl,j5 ns ns.length (Nat.le_refl _),List.take_length]
 rw[e];exact⟨.int ns.sum,H,I.kept (t':=tk) (ly hk),⟨_,rfl⟩,q⟩
def DA:WC:=fun rs m K=>on1 (fun r=>∃ds ns,sqOf m r=some ds/\cR ds=some ns/\K (.imm (.int ns.sum))) rs
theorem iM(hc:X.calm=true):dn X (.builtin "sum") (cM X.kx DA):=by
 rintro pins s σ' H xs us Q I rv ⟨α,m,σ,H0,rs,Kc,Rl,h,ho,fin⟩;obtain⟨r,v,rfl,rfl,h1,ds,ns,e1,e2,ho⟩:=dy h ho;obtain⟨a,ys,rfl,f,g⟩:=h1.seq Rl e1;rw[fH e2]at g;have ey:=dj g;subst ey;have go:Q (.int ns.sum) H:=fin _ _ H ho Rl (di _) (Frm.refl _ _);rcases f with f|f
 .exact oG hc pins s σ' H _ us Q I rv ⟨false,a,ns,rfl,f,go⟩
 .exact oG hc pins s σ' H _ us Q I rv ⟨true,a,ns,rfl,f,go⟩
theorem ui{m:MSt}{r:R}{Kr:R->Prop}{ds:List PyData}{ns:List Int}(e1:sqOf m r=some ds)(e2:cR ds=some ns)(h:Kr (.imm (.int ns.sum))):DA [r] m Kr:=⟨ds,ns,e1,e2,h⟩
theorem gf{K:Kd}{H:Hp}:∀ns:List Int,DenAll K H (ns.map .int) (ns.map V.int)
 |[]=>by simp only[List.map_nil,DenAll]
 |n::ns=>by
  simp only[List.map_cons,DenAll];exact⟨.int n,_,rfl,by simp only[Den],gf ns⟩
end
structure ConM(K:PySem.W.Frag)(mg:Str->Option Value)(x:Str)(d:PyData):Prop where
 ex:∃(v:V) (u:Value),mg x=some u/\RelV v u/\∀(w:World) (H:Hp),Den ⟨K,w⟩ H d v
structure ConK(K:PySem.W.Frag)(x:Str)(d:PyData):Prop where
 ex:∃(v:V) (u:Value),PySem.W.nsIn K mainGlobals x=some (some u)/\RelV v u/\∀(w:World) (H:Hp),Den ⟨K,w⟩ H d v
theorem ConK.m{K:PySem.W.Frag}{mg:Str->Option Value}{h:Heap}{d:PyData}(D:ConK K x d)(X:K.In h)(G:h.Ns mainGlobals mg):ConM K mg x d:=by
 obtain⟨v,u,a,r,q⟩:=D.ex;exact⟨v,u,PySem.W.mg_of X G a,r,q⟩
section
variable {X:Cx}{a b o e:Expr}{es:List Expr}{wo we:WE}{ws:WA}{apos cpos pos p:Pos}{tg:Expr}
theorem Gx{d:PyData}(C:ConM X.K X.mg x d)(hg:Gl X x)(hd:(x==("__debug__" : Str))=false:=by decide):ME X (.Name x pos) (wC d):=by
 obtain⟨v,u,hm,r,q⟩:=C.ex;exact Bc (Cu hg hm r hd) fun α m σ H Kc Q Rl hw fin=>fin _ m v H hw rfl Rl (q _ _) (Frm.refl _ _)
theorem AH{d:PyData}(C:ConM X.K X.mg x d)(hg:Gl X x)(hd:(x==("__debug__" : Str))=false:=by decide):EE X (.Name x pos) (wC d):=⟨Gx C hg hd⟩
end
end L2
namespace HT
open PySem PySem.Spec PyProof.Rows
end HT
namespace L2
open PySem PySem.Spec PyProof.Rows
def intV:Value->Option Int
 | .int z _=>some z
 |_=>none
theorem kL:∀{its:List Value}{zs:List Int},its.map intV=zs.map some->Vals (zs.map V.int) its
 |[],[],_=>.nil
 |[],_::_,h=>by cases h
 |_::_,[],h=>by cases h
 |u::its,z::zs,h=>by
  obtain⟨h1,h2⟩:=List.cons.inj h;refine .cons ?_ (kL h2)
  cases u<;>first|(cases h1;exact⟨_,rfl⟩)|cases h1
theorem ConK.ints{K:PySem.W.Frag}{x:Str}{p:Addr}{its:Array Value}{n:Nat}{sl:Array (Option Value)}{zs:List Int}(a:PySem.W.nsIn K mainGlobals x=some (some (.ref p)))(l:K.lookup p=some ⟨.type "tuple",none,.seq its n,sl⟩)(i:its.toList.map intV=zs.map some)(hz:its.size≤1000):ConK K x (.tuple (zs.map .int)):=by
 refine⟨.ref p,_,a,rfl,fun _ H=>?_⟩;exact dg (.inr ⟨_,its,n,l,rfl,rfl,rfl,by rw[sizeLine_eq];omega,kL i⟩) (gf zs)
end L2
namespace K
open PySem L2 M7
def gu(n:Nat)(os:List (List Nat)):List (List Nat):=os.flatMap fun a=>((List.range n).filter fun l=>!a.contains l).map fun l=>a++[l]
def ordK(n:Nat):Nat->List (List Nat)
 |0=>[[]]
 |k+1=>gu n (ordK n k)
theorem ku{n:Nat}{os:List (List Nat)}{j:Nat}{a:List Nat}(h:os[j]?=some a):gu n (os.take (j+1))=gu n (os.take j)++((List.range n).filter fun l=>!a.contains l).map fun l=>a++[l]:=by
 unfold gu;rw[List.take_add_one,h,List.flatMap_append];simp
theorem ci:∀n≤4,∀k≤4,(ordK n k).length≤24/\∀a∈ordK n k,a.length≤4/\∀x∈a,x≤3:=by decide +kernel
theorem f9:∀n≤4,∀k≤3,∀j≤24,(gu n ((ordK n k).take j)).length≤24:=by decide +kernel
end K
namespace L2
open PySem PySem.Spec PyProof.Rows
variable{v y:V}{u:Value}{P:PyData->Prop}{w:World}{H H':Hp}{kvs:List (PyData×PyData)}{xs:List (List Key×Addr×Value)}{a:Addr}{Q:Value->Shared->Prop}{τ:List (List Nat×Addr)}{p ρ:List Nat}{kk:Key}{es vs:List (Key×V)}{t:PyData}{K:Kd}{α:Al}{m2:MSt}{σ:St}
section
variable {κ:Type} [DecidableEq κ]
def valV(kvs:List (κ×V))(k:κ):Option V:=(kvs.find? fun kv=>decide (kv.1=k)).map (·.2)
def putK(kvs:List (κ×V))(k:κ)(v:V):List (κ×V) :=
 if (kvs.any fun kv=>decide (kv.1=k))=true then kvs.map (fun kv=>if kv.1=k then(kv.1,v)else kv)else kvs++[(k,v)]
theorem jv{p:κ×V}{r:List (κ×V)}{k:κ}(e:p.1=k):valV (p::r) k=some p.2:=by simp[valV,List.find?_cons,e]
theorem jn{p:κ×V}{r:List (κ×V)}{k:κ}(e:¬p.1=k):valV (p::r) k=valV r k:=by simp[valV,List.find?_cons,e]
theorem qq(k:κ):∀kvs:List (κ×V),(kvs.any fun kv=>decide (kv.1=k))=(valV kvs k).isSome
 |[]=>rfl
 |p::r=>by
  rw[List.any_cons]
  by_cases e:p.1=k
  .simp only[jv e,decide_eq_true e,Bool.true_or,Option.isSome_some]
  .rw[jn e,decide_eq_false e,Bool.false_or];exact qq k r
theorem jP(kvs:List (κ×V))(k:κ)(v:V):(putK kvs k v).length≤kvs.length+1:=by
 unfold putK;split
 .rw[List.length_map];omega
 .rw[List.length_append,List.length_cons,List.length_nil];omega
theorem RelO.isSome_eq{o:Option V}{u:Option Value}(r:RelO o u):o.isSome=u.isSome:=by
 cases o with
 |none=>cases u with
  |none=>rfl
  |some _=>exact(show False from r).elim
 |some _=>cases u with
  |none=>exact(show False from r).elim
  |some _=>rfl
theorem KV.val{kvs:List (κ×V)}{vs:List (κ×Value)}(r:KV kvs vs)(k:κ):RelO (valV kvs k) (valueAt vs k):=by
 unfold KV at r
 induction r with
 |nil=>exact True.intro
 | @cons p q ps qs h t ih =>
  obtain⟨h1,h2⟩:=h
  by_cases e:p.1=k
  .have e':q.1=k:=h1.symm.trans e;have b:valueAt (q::qs) k=some q.2:=by simp[valueAt,List.find?_cons,e']
   rw[jv e,b];exact h2
  .have e':¬q.1=k:=fun z=>e (h1.trans z);have b:valueAt (q::qs) k=valueAt qs k:=by simp[valueAt,List.find?_cons,e']
   rw[jn e,b];exact ih
theorem KV.any{kvs:List (κ×V)}{vs:List (κ×Value)}(r:KV kvs vs)(k:κ):(kvs.any fun kv=>decide (kv.1=k))=vs.any fun kv=>decide (kv.1=k):=by
 unfold KV at r
 induction r with
 |nil=>rfl
 |cons h t ih=>rw[List.any_cons,List.any_cons,ih,h.1]
theorem KV.repl{kvs:List (κ×V)}{vs:List (κ×Value)}(r:KV kvs vs)(k:κ)(ry:RelV y u) :
  KV (kvs.map fun kv=>if kv.1=k then(kv.1,y)else kv) (vs.map fun kv=>if kv.1=k then(kv.1,u)else kv):=by
 unfold KV at r⊢
 induction r with
 |nil=>exact .nil
 | @cons p q ps qs h t ih =>
  rw[List.map_cons,List.map_cons];refine .cons ?_ ih;obtain⟨h1,h2⟩:=h
  by_cases e:p.1=k
  .rw[if_pos e,if_pos (h1.symm.trans e)];exact⟨h1,ry⟩
  .rw[if_neg e,if_neg (fun z=>e (h1.trans z))];exact⟨h1,h2⟩
theorem KV.put{kvs:List (κ×V)}{vs:List (κ×Value)}(r:KV kvs vs)(k:κ)(ry:RelV y u):KV (putK kvs k y) (stored vs k u):=by
 unfold putK stored;rw[r.any k]
 by_cases e:(vs.any fun kv=>decide (kv.1=k))=true
 .rw[if_pos e,if_pos e];exact r.repl k ry
 .rw[if_neg e,if_neg e];exact Paired.snoc r ⟨rfl,ry⟩
theorem KV.length{kvs:List (κ×V)}{vs:List (κ×Value)}(r:KV kvs vs):kvs.length=vs.length:=Paired.length r
end
theorem sw{P:Program}{k:Key}(r:RelV (kV k) u):(cf P w).is k u=true:=by
 cases k with
 |inl i=>obtain⟨t,e⟩:=(show ∃t,u=Value.int i t from r);subst e;exact p6 P w i t
 |inr x=>obtain⟨t,e⟩:=(show ∃t,u=Value.str x t from r);subst e;exact qh P w x t
theorem m6{P:Program}{w:World}:∀{ks:List Key}{us:List Value},Vals (ks.map kV) us->ItemsAre (cf P w) ks us
 |[],_,r=>by rw[List.map_nil]at r;cases r;exact .nil
 |k::ks,_,r=>by
  rw[List.map_cons]at r
  cases r with
  |cons h t=>exact .cons (sw h) (m6 t)
abbrev KT(H:Hp):List (List Key×V)->List (List Key×Addr×Value)->Prop:=Paired fun p q=>p.1=q.1/\H q.2.1=some (.tup (p.1.map kV))/\RelV p.2 q.2.2
theorem KT.val{kvs:List (List Key×V)}(r:KT H kvs xs)(k:List Key):RelO (valV kvs k) ((atKey xs k).map (·.2)):=by
 induction r with
 |nil=>exact True.intro
 | @cons p q ps qs h t ih =>
  obtain⟨h1,_,h2⟩:=h
  by_cases e:p.1=k
  .have e':q.1=k:=h1.symm.trans e;have b:atKey (q::qs) k=some q.2:=by simp[atKey,List.find?_cons,e']
   rw[jv e,b];exact h2
  .have e':¬q.1=k:=fun z=>e (h1.trans z);have b:atKey (q::qs) k=atKey qs k:=by simp[atKey,List.find?_cons,e']
   rw[jn e,b];exact ih
theorem KT.repl{kvs:List (List Key×V)}(r:KT H kvs xs)(k:List Key)(ry:RelV y u) :
  KT H (kvs.map fun kv=>if kv.1=k then(kv.1,y)else kv) (xs.map (putAt k u)):=by
 induction r with
 |nil=>exact .nil
 | @cons p q ps qs h t ih =>
  rw[List.map_cons,List.map_cons];refine .cons ?_ ih;obtain⟨h1,h2,h3⟩:=h;unfold putAt
  by_cases e:p.1=k
  .rw[if_pos e,if_pos (h1.symm.trans e)];exact⟨h1,h2,ry⟩
  .rw[if_neg e,if_neg (fun z=>e (h1.trans z))];exact⟨h1,h2,h3⟩
theorem KT.put{kvs:List (List Key×V)}(r:KT H kvs xs)(k:List Key){b:Addr}(hb:H b=some (.tup (k.map kV)))(ry:RelV y u) :
  KT H (putK kvs k y) (storedH xs k b u):=by
 have e:(kvs.any fun kv=>decide (kv.1=k))=(atKey xs k).isSome:=by
  rw[qq,(r.val k).isSome_eq,Option.isSome_map]
 unfold putK storedH;rw[e]
 by_cases q:(atKey xs k).isSome=true
 .rw[if_pos q,if_pos q];exact r.repl k ry
 .rw[if_neg q,if_neg q];exact Paired.snoc r ⟨rfl,hb,ry⟩
theorem KT.keeps{kvs:List (List Key×V)}(r:KT H kvs xs)(ht:∀b ys,H b=some (.tup ys)->H' b=some (.tup ys)):KT H' kvs xs :=
 Paired.mapP r fun _ _ z=>⟨z.1,ht _ _ z.2.1,z.2.2⟩
section
variable {P:Program}{w:World}{H:Hp}{h:Heap}{a:Addr}
theorem Iz{u:HO}(ok:HOk P w H h)(e:Rd H a u):ObjOk P w H h a u:=e.ok ok
theorem oT{kvs:List (Key×V)}(ok:HOk P w H h)(e:Rd H a (.dK kvs)):kvs.length≤sizeLine/\(a==sysModules)=false/\∃vs,KV kvs vs/\h.DictOf (cf P w) a vs :=
 show ObjOk P w H h a (.dK kvs)from Iz ok e
theorem JX{kvs:List (Key×V)}(ok:HOk P w H h)(e:H a=some (.dK kvs)):kvs.length≤sizeLine/\(a==sysModules)=false/\∃vs,KV kvs vs/\h.DictOf (cf P w) a vs:=oT ok (.inl e)
theorem nG{ks:List Key}(ok:HOk P w H h)(e:H a=some (.tup (ks.map kV))):(tupleKind (cf P w)).is h ks a:=by
 obtain⟨_,its,r,o,h1,h2,hd,n,h3⟩:=(show ObjOk P w H h a (.tup (ks.map kV))from ok a _ e);exact⟨o,its.toArray,n,h1,h2,h3,by simpa using m6 r⟩
theorem y6{kvs:List (List Key×V)}(ok:HOk P w H h)(e:Rd H a (.dT kvs)):kvs.length≤sizeLine/\(a==sysModules)=false /\
  ∃xs,KT H kvs xs/\h.DictOfH (tupleKind (cf P w)) a xs:=by
 obtain⟨z,y,xs,r,o,es,ep,h1,h2,h3,h4,h5⟩:=(show ObjOk P w H h a (.dT kvs)from Iz ok e);refine⟨z,y,xs,r,o,es,ep,h1,h2,h3,h4,fun x hx=>?_,h5⟩;have all:∀{l:List (List Key×V)}{m:List (List Key×Addr×Value)},KT H l m->∀x∈m,(tupleKind (cf P w)).is h x.1 x.2.1:=by
  intro l m q
  induction q with
  |nil=>intro x hx;exact nomatch hx
  | @cons p q ps qs hq t ih =>
   intro x hx;rcases List.mem_cons.mp hx with e|hx
   .subst e;exact nG ok (by rw[<-hq.1];exact hq.2.1)
   .exact ih x hx
 exact all r x hx
theorem Lq{kvs:List (List Key×V)}(ok:HOk P w H h)(e:H a=some (.dT kvs)):kvs.length≤sizeLine/\(a==sysModules)=false /\
  ∃xs,KT H kvs xs/\h.DictOfH (tupleKind (cf P w)) a xs:=y6 ok (.inl e)
end
def DGet(H:Hp)(a:Addr)(y:V)(r:Option V):Prop :=
 (∃kvs k,Rd H a (.dK kvs)/\y=kV k/\r=valV kvs k)\/∃kvs k b,Rd H a (.dT kvs)/\y = .ref b/\H b=some (.tup (k.map kV))/\r=valV kvs k
def DPut(H:Hp)(a:Addr)(y v:V)(H':Hp):Prop :=
 (∃kvs k,H a=some (.dK kvs)/\y=kV k/\kvs.length<sizeLine/\H'=upd H a (.dK (putK kvs k v))) \/
 ∃kvs k b,H a=some (.dT kvs)/\y = .ref b/\H b=some (.tup (k.map kV))/\kvs.length<sizeLine/\H'=upd H a (.dT (putK kvs k v))
theorem DPut.k{kvs:List (Key×V)}{k:Key}(e:H a=some (.dK kvs))(hl:kvs.length<sizeLine):DPut H a (kV k) v (upd H a (.dK (putK kvs k v))):=.inl ⟨kvs,k,e,rfl,hl,rfl⟩
section
variable {X:Cx}{pins:List (Addr×Obj)}{σ:St}{H:Hp}{s:Shared}{a:Addr}{y v:V}{u r:Value}{o:Option V}{A:Around}{E:Value->Shared->Prop}
theorem Inv.big(I:Inv X pins σ H s):sysModules<s.heap.objs.size:=by
 have h:mainGlobals<s.heap.objs.size:=(I.mod.glob.keeps I.bk).lt;exact Nat.lt_trans (by decide) h
theorem vp(hu:A.units+1<cLine)(I:Inv X pins σ H s)(g:DGet H a y (some v))(ry:RelV y u)(h:∀w' s',Inv X pins σ H s'->RelV v w'->Q w' s') :
  wpAny (model X.prog X.w) A (getItem (.ref a) u) Q E s:=by
 rcases g with⟨kvs,k,e,ey,l⟩|⟨kvs,k,b,e,ey,eb,l⟩
 .subst ey;obtain⟨z,hd,vs,rel,dd⟩:=oT I.hok e;obtain⟨w',hw,rw'⟩:=RelO.some_of (v:=v) (o:=valueAt vs k) (by rw[l];exact rel.val k);exact wpAny_getItem_of (sw ry) dd.mapOf hw (h w' _ (I.tok _) rw')
 .subst ey
  cases (show u=Value.ref b from ry)
  obtain⟨z,hd,xs,rel,dd⟩:=y6 I.hok e;obtain⟨w',hw,rw'⟩:=RelO.some_of (v:=v) (o:=(atKey xs k).map (·.2)) (by rw[l];exact rel.val k);obtain⟨p,hp,hp2⟩:=Option.map_eq_some_iff.mp hw;refine wpAny_getItem_heap (tupleKind_room_in1 hu) (nG I.hok eb) dd hp ?_;rw[hp2];exact h w' _ (I.tok _) rw'
theorem d_in(hu:A.units+1<cLine)(I:Inv X pins σ H s)(g:DGet H a y o)(ry:RelV y u)(h:∀s',Inv X pins σ H s'->Q (.bool o.isSome) s') :
  wpAny (model X.prog X.w) A (compareOp .In u (.ref a)) Q E s:=by
 rcases g with⟨kvs,k,e,ey,l⟩|⟨kvs,k,b,e,ey,eb,l⟩
 .subst ey;obtain⟨z,hd,vs,rel,dd⟩:=oT I.hok e;refine wpAny_in_of (sw ry) hd dd.mapOf ?_;rw[<-(rel.val k).isSome_eq,<-l];exact h _ (I.tok _)
 .subst ey
  cases (show u=Value.ref b from ry)
  obtain⟨z,hd,xs,rel,dd⟩:=y6 I.hok e;refine wpAny_in_heap (tupleKind_room_in1 hu) (nG I.hok eb) hd dd ?_;have q:=(rel.val k).isSome_eq;rw[Option.isSome_map]at q;rw[<-q,<-l];exact h _ (I.tok _)
theorem Bf(hu:A.units+1<cLine)(I:Inv X pins σ H s)(g:DGet H a y o)(ry:RelV y u)(h:∀s',Inv X pins σ H s'->Q (.bool (!o.isSome)) s') :
  wpAny (model X.prog X.w) A (compareOp .NotIn u (.ref a)) Q E s:=by
 rcases g with⟨kvs,k,e,ey,l⟩|⟨kvs,k,b,e,ey,eb,l⟩
 .subst ey;obtain⟨z,hd,vs,rel,dd⟩:=oT I.hok e;refine wpAny_notIn_of (sw ry) hd dd.mapOf ?_;rw[<-(rel.val k).isSome_eq,<-l];exact h _ (I.tok _)
 .subst ey
  cases (show u=Value.ref b from ry)
  obtain⟨z,hd,xs,rel,dd⟩:=y6 I.hok e;refine wpAny_notIn_heap (tupleKind_room_in1 hu) (nG I.hok eb) hd dd ?_;have q:=(rel.val k).isSome_eq;rw[Option.isSome_map]at q;rw[<-q,<-l];exact h _ (I.tok _)
theorem pJ{h':Heap}{t':Nat}{ob:HO}(I:Inv X pins σ H s)(mu:Mut (H a))(hs:Heap.SameBut a s.heap h')(he:∃q,h'.get? a=some q)(new:ObjOk X.prog X.w (upd H a ob) h' a ob) :
  Inv X pins σ (upd H a ob) {s with heap:=h',toks:=t' } :=
 I.write (x:=a) (e:=a) mu (.inl rfl) (fun b q hb z=>(hs.2 b hb).trans z) he new
theorem Fv{P:Program}{h':Heap}{kvs:List (Key×V)}{vs:List (Key×Value)}(z:kvs.length≤sizeLine)(hd:(a==sysModules)=false)(rel:KV kvs vs)(dd:h'.DictOf (cf P w) a vs) :
  ObjOk P w H' h' a (.dK kvs):=⟨z,hd,vs,rel,dd⟩
theorem vY{Q:Unit->Shared->Prop}(hu:A.units+1<cLine)(I:Inv X pins σ H s)(g:DPut H a y v H')(ry:RelV y u)(rv:RelV v r)(h:∀s',Inv X pins σ H' s'->Q () s') :
  wpAny (model X.prog X.w) A (setItem (.ref a) u r) Q E s:=by
 rcases g with⟨kvs,k,e,ey,l,eH⟩|⟨kvs,k,b,e,ey,eb,l,eH⟩
 .subst ey eH;obtain⟨z,hd,vs,rel,dd⟩:=JX I.hok e;have hz:vs.length≤sizeLine:=by rw[<-rel.length];exact z
  have hl:(putK kvs k v).length≤sizeLine:=by have:=jP kvs k v;omega
  refine wpAny_setItem_pairs (hsz:=hz) (sw ry) dd fun h' dd' hs=>h _ ?_;have he:∃q,h'.get? a=some q:=let ⟨q,_,_,hq,_⟩:=dd';⟨q,hq⟩;exact pJ I (by rw[e];exact True.intro) hs he (Fv hl hd (rel.put k rv) dd')
 .subst ey eH
  cases (show u=Value.ref b from ry)
  obtain⟨z,hd,xs,rel,dd⟩:=Lq I.hok e;have hz:xs.length≤sizeLine:=by rw[<-Paired.length rel];exact z
  have hl:(putK kvs k v).length≤sizeLine:=by have:=jP kvs k v;omega
  refine wpAny_setItem_heap (hsz:=hz) (tupleKind_room_in1 hu) (nG I.hok eb) dd fun h' dd' hs=>h _ ?_;obtain⟨q,es,ep,hq,h2,h3,h4,_,h5⟩:=dd';refine pJ I (by rw[e];exact True.intro) hs ⟨q,hq⟩ ⟨hl,hd,_,(rel.put k eb rv).keeps fun c ys ec=>?_,q,es,ep,hq,h2,h3,h4,h5⟩;rw[aw (pH ec e (fun z=>nomatch z))];exact ec
end
def NoSl(i:Expr):Prop:=∀ov iv,subscripted i false ov iv=operate [ov,iv] (getItem ov iv)
theorem Dq{prog:Program}{A:Around}{E:Value->Shared->Prop}{s:Shared}{env:Env}{value slice:Expr}{pos:Pos}{T id:String}
  (hl:typeLookup (.type T) "__getitem__" = pure (some (.builtin id))) (hs:NoSl slice)
  (h:wpAny (model prog w) A (eval value env) (fun o s₁=>wpAny (model prog w) A (eval slice env) (fun i s₂=>s₂.TypeIs o T/\wpAny (model prog w) A (getItem o i) Q E s₂) E s₁) E s) :
  wpAny (model prog w) A (eval (.Subscript value slice pos) env) Q E s:=by
 refine Subscript_ (wpAny_mono h (fun o s₁ h₁=>wpAny_mono h₁ (fun i s₂ h₂=>?_) fun _ _ x=>x) fun _ _ x=>x);obtain⟨hT,h₂⟩:=h₂;unfold subscriptTail;refine wpAny_bind ?_;rw[getitemInPython_of_ne hT.not_modules];refine wpAny_bind (wpAny_specialOf hT hl ?_);have fin:wpAny (model prog w) A (subscripted slice false o i) (fun r s₃=>wpAny (model prog w) A (letTemporaryGo value o r >>= fun _=>pure r) Q E s₃) E s₂:=by
  rw[hs o i];exact wpAny_operating (wpAny_mono h₂ (fun r s₃ h₃=>wpAny_bind (wpAny_letTemporaryGo (wpAny_pure h₃))) fun _ _ x=>x)
 first
  |exact wpAny_pure (wpAny_bind fin)
  |exact wpAny_bind (wpAny_pure (wpAny_bind fin))
  |exact wpAny_bind fin
def JU(td ty tv:TE):TS:=fun D σ H=>tv σ H fun v H1=>td σ H1 fun x H2=>ty σ H2 fun y H3=>∃a H4,x = .ref a/\DPut H3 a y v H4/\D.nx σ H4
section
variable {X:Cx}{o i e value:Expr}{pos pos' tpos:Pos}{td ty tv:TE}
theorem Cv(hu:X.A.units+1<cLine)(ho:PE X o td)(hi:PE X i ty)(hv:PE X value tv)(hs:swapsWith value (some (.Subscript o i pos')) pos.line X.env=pure false) :
  PS X (.Assign [.Subscript o i pos'] value pos) (JU td ty tv):=by
 intro pins s σ H D I h;refine wpAny_Assign_Subscript (thn (hv pins s σ H _ I h) fun r s1 ⟨v,H1,I1,rv,q1⟩=>thn (ho pins s1 σ H1 _ I1 q1) fun u s2 ⟨x,H2,I2,rx,q2⟩=>thn (hi pins s2 σ H2 _ I2 q2) fun iv s3 ⟨y,H3,I3,ry,a,H4,ex,g,q3⟩=>?_) hs;subst ex;obtain rfl:u=Value.ref a:=rx;exact vY hu I3 g ry rv fun s4 I4=>⟨σ,H4,I4,q3⟩
end
theorem qz{P:Program}(h:Heap)(hb:sysModules<h.objs.size):ObjOk P w H (h.push {cls:=.type "dict",data:=.dict #[]}) h.objs.size (.dK []) :=
 ⟨Nat.zero_le _,beq_eq_false_iff_ne.mpr (Ne.symm (Nat.ne_of_lt hb)),[],.nil,Heap.DictOf.new h⟩
def FT:TE:=fun _ H Q=>∀p,H p=none->Q (.ref p) (upd H p (.dK []))
section
variable {X:Cx}{pos:Pos}
theorem pe_dnewK:PE X (.Dict [] [] pos) FT:=fun pins s σ H Q I h =>
 wpAny_Dict_empty ⟨.ref s.heap.objs.size,_,I.laid (a:=s.heap.objs.size) (o:=.dK []) (t':=s.toks) (fun _ _ q=>Heap.get?_push_of_some _ q) (Nat.le_refl _) (qz s.heap I.big),rfl,h _ (I.hok.fresh (Nat.le_refl _))⟩
end
section
variable {K:Kd}{H H':Hp}{τ:List (List Nat×Addr)}
mutual
theorem TAt.monoP(pe:Pers H H'):∀{d:PyData}{p:List Nat}{v:V},(∀q a,τ.lookup (p++q)=some a->H' a=H a)->TAt K H τ p d v->TAt K H' τ p d v
 | .none,_,_,_,h=>by simp only[TAt]at h⊢;exact h.mono pe
 | .bool _,_,_,_,h=>by simp only[TAt]at h⊢;exact h.mono pe
 | .int _,_,_,_,h=>by simp only[TAt]at h⊢;exact h.mono pe
 | .str _,_,_,_,h=>by simp only[TAt]at h⊢;exact h.mono pe
 | .tuple _,_,_,_,h=>by simp only[TAt]at h⊢;exact h.mono pe
 | .list ts,p,_,e,h=>by
  simp only[TAt]at h⊢;obtain⟨a,xs,e1,e2,e3,g⟩:=h;exact⟨a,xs,e1,e2,(e [] a (by rw[List.append_nil];exact e1)).trans e3,TAtL.monoP pe (fun i q a z=>e (i::q) a z) g⟩
 | .dict kvs,p,_,e,h=>by
  simp only[TAt]at h⊢;rcases h with⟨d,e1,h⟩|⟨z1,z2,a,es,e1,e2,e3,k,g⟩|⟨z1,z2,a,es,e1,e2,e3,g⟩|⟨c,a,dx,C,xs,e0,e1,e2,e3,k,g⟩
  .exact .inl ⟨d,e1,h.mono pe⟩
  .exact .inr (.inl ⟨z1,z2,a,es,e1,e2,(e [] a (by rw[List.append_nil];exact e1)).trans e3,k,TAtD.monoP pe (fun i q a z=>e (i::q) a z) g⟩)
  .exact .inr (.inr (.inl ⟨z1,z2,a,es,e1,e2,(e [] a (by rw[List.append_nil];exact e1)).trans e3,TAtK.monoP pe (fun i q a z=>e (i::q) a z) g⟩))
  .exact .inr (.inr (.inr ⟨c,a,dx,C,xs,e0,e1,e2,(e [] a (by rw[List.append_nil];exact e1)).trans e3,k,TAtF.monoP pe (fun i q a z=>e (i::q) a z) g⟩))
theorem TAtL.monoP(pe:Pers H H'):∀{ds:List PyData}{p:List Nat}{i:Nat}{xs:List V},(∀i q a,τ.lookup (p++i::q)=some a->H' a=H a)->TAtL K H τ p i ds xs->TAtL K H' τ p i ds xs
 |[],_,_,_,_,h=>by simpa only[TAtL]using h
 |t::ts,p,i,_,e,h=>by
  simp only[TAtL]at h⊢;obtain⟨v,vs,e1,g1,g2⟩:=h;exact⟨v,vs,e1,TAt.monoP pe (fun q a z=>e i q a (by simpa using z)) g1,TAtL.monoP pe e g2⟩
theorem TAtD.monoP(pe:Pers H H'):∀{ds:List (PyData×PyData)}{p:List Nat}{i:Nat}{xs:List (Int×V×V)},(∀i q a,τ.lookup (p++i::q)=some a->H' a=H a)->TAtD K H τ p i ds xs->TAtD K H' τ p i ds xs
 |[],_,_,_,_,h=>by simpa only[TAtD]using h
 |(k,t)::r,p,i,_,e,h=>by
  simp only[TAtD]at h⊢;obtain⟨u,v,vs,e1,g0,g1,g2⟩:=h;exact⟨u,v,vs,e1,g0.mono pe,TAt.monoP pe (fun q a z=>e i q a (by simpa using z)) g1,TAtD.monoP pe e g2⟩
theorem TAtK.monoP(pe:Pers H H'):∀{ds:List (PyData×PyData)}{p:List Nat}{i:Nat}{xs:List (Key×V)},(∀i q a,τ.lookup (p++i::q)=some a->H' a=H a)->TAtK K H τ p i ds xs->TAtK K H' τ p i ds xs
 |[],_,_,_,_,h=>by simpa only[TAtK]using h
 |(k,t)::r,p,i,_,e,h=>by
  simp only[TAtK]at h⊢;obtain⟨u,v,vs,e1,g0,g1,g2⟩:=h;exact⟨u,v,vs,e1,g0,TAt.monoP pe (fun q a z=>e i q a (by simpa using z)) g1,TAtK.monoP pe e g2⟩
theorem TAtF.monoP(pe:Pers H H'):∀{ds:List (PyData×PyData)}{p:List Nat}{i:Nat}{xs:List (Str×V)},(∀i q a,τ.lookup (p++i::q)=some a->H' a=H a)->TAtF K H τ p i ds xs->TAtF K H' τ p i ds xs
 |[],_,_,_,_,h=>by simpa only[TAtF]using h
 |(.str f,t)::r,p,i,_,e,h=>by
  simp only[TAtF]at h⊢;obtain⟨v,vs,e1,g1,g2⟩:=h;exact⟨v,vs,e1,TAt.monoP pe (fun q a z=>e i q a (by simpa using z)) g1,TAtF.monoP pe e g2⟩
 |(.none,d)::r,_,_,_,e,h=>by simp only[TAtF]at h⊢;exact TAtF.monoP pe e h
 |(.bool _,d)::r,_,_,_,_,h=>by simp only[TAtF]at h
 |(.int _,d)::r,_,_,_,_,h=>by simp only[TAtF]at h
 |(.list _,d)::r,_,_,_,_,h=>by simp only[TAtF]at h
 |(.tuple _,d)::r,_,_,_,_,h=>by simp only[TAtF]at h
 |(.dict _,d)::r,_,_,_,_,h=>by simp only[TAtF]at h
end
end
def setT:PyData->List Nat->PyData->PyData
 |_,[],n=>n
 | .list ts,i::p,n=>.list (ts.set i (setT (ts.getD i .none) p n))
 | .dict kvs,i::p,n=>.dict (kvs.set i ((kvs.getD i (.none,.none)).1,setT (kvs.getD i (.none,.none)).2 p n))
 |t,_::_,_=>t
section
variable {K:Kd}{H H':Hp}{τ:List (List Nat×Addr)}{p q:List Nat}{P:List Nat}
theorem TAtL.setL(pe:Pers H H'){t':PyData}:∀{ts:List PyData}{i j:Nat}{xs:List V},TAtL K H τ p i ts xs->(∀v,xs[j]?=some v->TAt K H' τ (p++[i+j]) t' v)->(∀l,l≠i+j->∀q a,τ.lookup (p++l::q)=some a->H' a=H a)->TAtL K H' τ p i (ts.set j t') xs
 |[],_,_,_,h,_,_=>by simpa only[List.set_nil,TAtL]using h
 | t::ts,i,0,xs,h,c,e=>by
  simp only[TAtL]at h;obtain⟨v,vs,rfl,_,g2⟩:=h;simp only[List.set_cons_zero,TAtL];refine⟨v,vs,rfl,c v rfl,?_⟩;clear c;have:∀{ts:List PyData}{i':Nat}{vs:List V},i<i'->TAtL K H τ p i' ts vs->TAtL K H' τ p i' ts vs:=by
   intro ts
   induction ts with
   |nil=>intro i' vs _ h;simpa only[TAtL]using h
   |cons t ts ih =>
    intro i' vs hl h;simp only[TAtL]at h⊢;obtain⟨v,vs,rfl,g1,g2⟩:=h;exact⟨v,vs,rfl,TAt.monoP pe (fun q a z=>e i' (by omega) q a (by simpa using z)) g1,ih (by omega) g2⟩
  exact this (Nat.lt_succ_self i) g2
 |t::ts,i,j+1,xs,h,c,e=>by
  simp only[TAtL]at h;obtain⟨v,vs,rfl,g1,g2⟩:=h;simp only[List.set_cons_succ,TAtL];exact⟨v,vs,rfl,TAt.monoP pe (fun q a z=>e i (by omega) q a (by simpa using z)) g1,TAtL.setL pe g2 (fun v' z=>by rw[show i+1+j=i+(j+1) by omega];exact c v' (by simpa using z)) fun l hl=>e l (by omega)⟩
theorem TAtK.rest(pe:Pers H H'){i:Nat}(e:∀l,l≠i->∀q a,τ.lookup (p++l::q)=some a->H' a=H a):∀{ts:List (PyData×PyData)}{i':Nat}{vs:List (Key×V)},i<i'->TAtK K H τ p i' ts vs->TAtK K H' τ p i' ts vs
 |[],_,_,_,h=>by simpa only[TAtK]using h
 |(k,t)::ts,i',vs,hl,h=>by
  simp only[TAtK]at h⊢;obtain⟨kk,v,vs,rfl,g0,g1,g2⟩:=h;exact⟨kk,v,vs,rfl,g0,TAt.monoP pe (fun q a z=>e i' (by omega) q a (by simpa using z)) g1,TAtK.rest pe e (by omega) g2⟩
theorem TAtK.setK(pe:Pers H H'){t':PyData}:∀{ts:List (PyData×PyData)}{i j:Nat}{xs:List (Key×V)}{k0 t0:PyData},TAtK K H τ p i ts xs->ts[j]?=some (k0,t0)->(∀v,(∃kk,xs[j]?=some (kk,v))->TAt K H' τ (p++[i+j]) t' v)->(∀l,l≠i+j->∀q a,τ.lookup (p++l::q)=some a->H' a=H a)->TAtK K H' τ p i (ts.set j (k0,t')) xs
 |[],_,_,_,_,_,_,z,_,_=>by simp at z
 |(k,t)::ts,i,0,xs,k0,t0,h,z,c,e=>by
  simp at z;obtain⟨rfl,rfl⟩:=z;simp only[TAtK]at h;obtain⟨kk,v,vs,rfl,g0,_,g2⟩:=h;simp only[List.set_cons_zero,TAtK];exact⟨kk,v,vs,rfl,g0,c v ⟨kk,rfl⟩,TAtK.rest pe e (Nat.lt_succ_self i) g2⟩
 |(k,t)::ts,i,j+1,xs,k0,t0,h,z,c,e=>by
  simp only[TAtK]at h;obtain⟨kk,v,vs,rfl,g0,g1,g2⟩:=h;simp only[List.set_cons_succ,TAtK];exact⟨kk,v,vs,rfl,g0,TAt.monoP pe (fun q a z=>e i (by omega) q a (by simpa using z)) g1,TAtK.setK pe g2 (by simpa using z) (fun v' ⟨kk',z⟩=>by rw[show i+1+j=i+(j+1) by omega];exact c v' ⟨kk',by simpa using z⟩) fun l hl=>e l (by omega)⟩
end
theorem r8(nd:(τ.map (·.2)).Nodup){q:List Nat}(h1:τ.lookup p=some a)(h2:τ.lookup q=some a):p=q:=by
 induction τ with
 |nil=>cases h1
 | cons x τ ih =>
  obtain⟨r,b⟩:=x;rw[List.map_cons,List.nodup_cons]at nd;rw[List.lookup_cons]at h1 h2
  by_cases e1:p==r
  .rw[e1]at h1;cases h1
   by_cases e2:q==r
   .rw[eq_of_beq e1,eq_of_beq e2]
   .simp only[Bool.not_eq_true]at e2;rw[e2]at h2;exact(nd.1 (bj h2)).elim
  .simp only[Bool.not_eq_true]at e1;rw[e1]at h1
   by_cases e2:q==r
   .rw[e2]at h2;cases h2;exact(nd.1 (bj h1)).elim
   .simp only[Bool.not_eq_true]at e2;rw[e2]at h2;exact ih nd.2 h1 h2
def wG:PyData->PyData->Bool
 | .int a,.int b=>decide (a=b)
 | .str a,.str b=>decide (a=b)
 |_,_=>false
theorem mW(a b:Key):wG (keyD a) (keyD b)=decide (a=b):=by
 cases a<;>cases b<;>simp[keyD,wG]
def putD(k t:PyData):List (PyData×PyData)->List (PyData×PyData)
 |[]=>[(k,t)]
 |(k',t')::r=>if wG k' k=true then(k',t)::r else(k',t')::putD k t r
def lfD:PyData->PyData
 | .list ds=>.dict [(.none,.list ds)]
 | .dict ds=>.dict [(.none,.dict ds)]
 |d=>d
theorem ql(h:isKd kvs=true):fzOf kvs=none/\excC kvs=none:=by
 cases kvs with
 |nil=>exact⟨rfl,rfl⟩
 |cons x r =>
  obtain⟨k,d⟩:=x
  cases k with
  |int _=>exact⟨rfl,rfl⟩
  |str _=>exact⟨rfl,rfl⟩
  |none=>simp[isKd]at h
  |bool _=>simp[isKd]at h
  |list _=>simp[isKd]at h
  |tuple _=>simp[isKd]at h
  |dict _=>simp[isKd]at h
section
variable {K:Kd}{H:Hp}{τ:List (List Nat×Addr)}{p:List Nat}
theorem TAtK.get':∀{ts:List (PyData×PyData)}{i j:Nat}{xs:List (Key×V)}{k t:PyData},TAtK K H τ p i ts xs->ts[j]?=some (k,t)->∃kk v,xs[j]?=some (kk,v)/\k=keyD kk/\TAt K H τ (p++[i+j]) t v
 |[],_,_,_,_,_,_,e=>by simp at e
 |(k,t)::ts,i,0,xs,k',t',h,e=>by
  simp only[TAtK]at h;obtain⟨u,v,vs,rfl,g0,g1,_⟩:=h;simp at e;obtain⟨rfl,rfl⟩:=e;exact⟨u,v,rfl,g0.1,g1⟩
 |(k,t)::ts,i,j+1,xs,k',t',h,e=>by
  simp only[TAtK]at h;obtain⟨u,v,vs,rfl,_,_,g2⟩:=h;obtain⟨kk,v',e1,e0,e2⟩:=TAtK.get' (j:=j) g2 (by simpa using e);exact⟨kk,v',by simpa using e1,e0,by rw[show i+(j+1)=i+1+j by omega];exact e2⟩
theorem TAtK.kd:∀{ts:List (PyData×PyData)}{i:Nat}{xs:List (Key×V)},TAtK K H τ p i ts xs->isKd ts=true
 |[],_,_,_=>rfl
 |(k,t)::ts,i,xs,h=>by
  simp only[TAtK]at h;obtain⟨u,v,vs,rfl,g0,_,g2⟩:=h;have:=g2.kd;unfold isKd at this⊢;rw[List.all_cons,this,g0.1]
  cases u<;>rfl
theorem TAtK.len:∀{ts:List (PyData×PyData)}{i:Nat}{xs:List (Key×V)},TAtK K H τ p i ts xs->ts.length=xs.length
 |[],_,_,h=>by simp only[TAtK]at h;subst h;rfl
 |(k,t)::ts,i,xs,h=>by
  simp only[TAtK]at h;obtain⟨u,v,vs,rfl,g0,_,g2⟩:=h;simp[g2.len]
theorem oy{u:Key}{w:V}(c:u≠kk):putK ((u,w)::vs) kk v=(u,w)::putK vs kk v:=by
 unfold putK;rw[List.any_cons,decide_eq_false (show ¬((u,w):Key×V).1=kk from c),Bool.false_or]
 by_cases e:(vs.any fun kv=>decide (kv.1=kk))=true
 .rw[if_pos e,if_pos e,List.map_cons,if_neg (show ¬((u,w):Key×V).1=kk from c)]
 .rw[if_neg e,if_neg e];rfl
theorem mH{w:V}(h:∀x∈vs,x.1≠kk):putK ((kk,w)::vs) kk v=(kk,v)::vs:=by
 unfold putK;rw[List.any_cons,decide_eq_true (show((kk,w):Key×V).1=kk from rfl),Bool.true_or,if_pos rfl,List.map_cons,if_pos rfl]
 congr 1
 exact(List.map_congr_left (g:=id) fun x hx=>if_neg (h x hx)).trans (List.map_id _)
theorem xM{x:Key×V}(h:x∈putK vs kk v):x.1=kk\/∃y∈vs,y.1=x.1:=by
 unfold putK at h
 split at h
 .obtain⟨y,h1,h2⟩:=List.mem_map.mp h;subst h2;refine .inr ⟨y,h1,?_⟩
  split<;>rfl
 .obtain h|h:=List.mem_append.mp h
  .exact .inr ⟨x,h,rfl⟩
  .cases List.mem_singleton.mp h
   exact .inl rfl
theorem TAtK.put{t':PyData}{v':V}(c:∀j,TAt K H τ (p++[j]) t' v'):∀{ts:List (PyData×PyData)}{i:Nat}{xs:List (Key×V)},TAtK K H τ p i ts xs->TAtK K H τ p i (putD (keyD kk) t' ts) (putK xs kk v')
 |[],i,xs,h=>by
  simp only[TAtK]at h;subst h;simp only[putD,TAtK];exact⟨kk,v',[],rfl,⟨rfl,fun x hx=>by cases hx⟩,c i,rfl⟩
 | (k,t)::ts,i,xs,h=>by
  simp only[TAtK]at h;obtain⟨u,v,vs,rfl,g0,g1,g2⟩:=h;obtain⟨rfl,g0⟩:=g0;simp only[putD,mW]
  by_cases e:u=kk
  .subst e;rw[if_pos (decide_eq_true rfl),mH g0];simp only[TAtK];exact⟨u,v',vs,rfl,⟨rfl,g0⟩,c i,g2⟩
  .rw[if_neg (by simpa using e),oy e];simp only[TAtK];refine⟨u,v,_,rfl,⟨rfl,fun x hx=>?_⟩,g1,g2.put c⟩;rcases xM hx with z|⟨y,hy,z⟩
   .rw[z];exact fun w=>e w.symm
   .rw[<-z];exact g0 y hy
theorem u7{d:PyData}(h:Den K H d v):TAt K H τ p (lfD d) v:=by
 cases d with
 |list ds=>simp only[lfD,TAt];exact .inl ⟨_,rfl,h⟩
 |dict ds=>simp only[lfD,TAt];exact .inl ⟨_,rfl,h⟩
 |none=>simpa only[lfD,TAt]using h
 |bool _=>simpa only[lfD,TAt]using h
 |int _=>simpa only[lfD,TAt]using h
 |str _=>simpa only[lfD,TAt]using h
 |tuple _=>simpa only[lfD,TAt]using h
theorem TAt.kd(h:TAt K H τ p (.dict kvs) v)(e:isKd kvs=true):∃a es,τ.lookup p=some a/\v = .ref a/\H a=some (.dK es)/\TAtK K H τ p 0 kvs es:=by
 obtain⟨n1,n2⟩:=ql e;simp only[TAt]at h;rcases h with⟨d,e1,_⟩|⟨_,_,b,es,e1,e2,e3,kk,g⟩|⟨_,_,b,es,e1,e2,e3,g⟩|⟨c,b,dx,C,xs,e0,e1,e2,e3,kk,g⟩
 .rw[n1]at e1;cases e1
 .rw[kk.1]at e;cases e
 .exact⟨b,es,e1,e2,e3,g⟩
 .rw[n2]at e0;cases e0
end
def okW:PyData->List Nat->Bool
 |_,[]=>true
 | .list ts,i::q=>okW (ts.getD i .none) q
 | .dict kvs,i::q=>(isKd kvs||(excC kvs).isSome)&&okW (kvs.getD i (.none,.none)).2 q
 |_,_::_=>false
theorem yX{i:Nat}{k t':PyData}(h:isKd kvs=true)(e:kvs[i]?=some (k,t)):isKd (kvs.set i (k,t'))=true:=by
 unfold isKd at h⊢;rw[List.all_eq_true]at h⊢;intro x hx;rcases List.mem_or_eq_of_mem_set hx with z|z
 .exact h x z
 .subst z;exact h (k,t) (List.mem_of_getElem? e)
theorem TAtF.restF{K:Kd}{H H':Hp}{τ:List (List Nat×Addr)}{p:List Nat}(pe:Pers H H'){i:Nat}(e:∀l,l≠i->∀q a,τ.lookup (p++l::q)=some a->H' a=H a):∀{ts:List (PyData×PyData)}{i':Nat}{vs:List (Str×V)},i<i'->TAtF K H τ p i' ts vs->TAtF K H' τ p i' ts vs
 |[],_,_,_,h=>by simpa only[TAtF]using h
 |(.str f,t)::ts,i',vs,hl,h=>by
  simp only[TAtF]at h⊢;obtain⟨v,vs,rfl,g1,g2⟩:=h;exact⟨v,vs,rfl,TAt.monoP pe (fun q a z=>e i' (by omega) q a (by simpa using z)) g1,TAtF.restF pe e (by omega) g2⟩
 |(.none,d)::r,_,_,hl,h=>by simp only[TAtF]at h⊢;exact TAtF.restF pe e (by omega) h
 |(.bool _,d)::r,_,_,_,h=>by simp only[TAtF]at h
 |(.int _,d)::r,_,_,_,h=>by simp only[TAtF]at h
 |(.list _,d)::r,_,_,_,h=>by simp only[TAtF]at h
 |(.tuple _,d)::r,_,_,_,h=>by simp only[TAtF]at h
 |(.dict _,d)::r,_,_,_,h=>by simp only[TAtF]at h
theorem TAtF.setF{K:Kd}{H H':Hp}{τ:List (List Nat×Addr)}{p:List Nat}(pe:Pers H H'){t' t0:PyData}{f0:Str}:∀{ts:List (PyData×PyData)}{i j:Nat}{xs:List (Str×V)},TAtF K H τ p i ts xs->ts[j]?=some (.str f0,t0)->(∀v,TAt K H τ (p++[i+j]) t0 v->TAt K H' τ (p++[i+j]) t' v)->(∀l,l≠i+j->∀q a,τ.lookup (p++l::q)=some a->H' a=H a)->TAtF K H' τ p i (ts.set j (.str f0,t')) xs
 |[],_,_,_,_,z,_,_=>by simp at z
 |(k,t)::ts,i,0,xs,h,z,c,e=>by
  simp at z;obtain⟨rfl,rfl⟩:=z;simp only[TAtF]at h;obtain⟨v,vs,rfl,g1,g2⟩:=h;simp only[List.set_cons_zero,TAtF];exact⟨v,vs,rfl,c v g1,TAtF.restF pe e (Nat.lt_succ_self i) g2⟩
 |(.str f,t)::ts,i,j+1,xs,h,z,c,e=>by
  simp only[TAtF]at h;obtain⟨v,vs,rfl,g1,g2⟩:=h;simp only[List.set_cons_succ,TAtF];exact⟨v,vs,rfl,TAt.monoP pe (fun q a z=>e i (by omega) q a (by simpa using z)) g1,TAtF.setF pe g2 (by simpa using z) (fun v' zv=>by rw[show i+1+j=i+(j+1) by omega]at zv⊢;exact c v' zv) fun l hl=>e l (by omega)⟩
 |(.none,d)::ts,i,j+1,xs,h,z,c,e=>by
  simp only[TAtF]at h;simp only[List.set_cons_succ,TAtF];exact TAtF.setF pe h (by simpa using z) (fun v' zv=>by rw[show i+1+j=i+(j+1) by omega]at zv⊢;exact c v' zv) fun l hl=>e l (by omega)
 |(.bool _,d)::r,_,_+1,_,h,_,_,_=>by simp only[TAtF]at h
 |(.int _,d)::r,_,_+1,_,h,_,_,_=>by simp only[TAtF]at h
 |(.list _,d)::r,_,_+1,_,h,_,_,_=>by simp only[TAtF]at h
 |(.tuple _,d)::r,_,_+1,_,h,_,_,_=>by simp only[TAtF]at h
 |(.dict _,d)::r,_,_+1,_,h,_,_,_=>by simp only[TAtF]at h
theorem TAt.ins{c:Str}(h:TAt K H τ p (.dict kvs) v)(e:excC kvs=some c):∃a dx C xs,τ.lookup p=some a/\v = .ref a/\H a=some (.ins C dx xs)/\ClsN K c C/\TAtF K H τ p 0 kvs xs:=by
 have hf:fzOf kvs=none:=by
  unfold excC at e
  split at e
  .unfold fzOf;split
   .rename_i z;simp at z
   .rename_i z;simp at z
   .rfl
  .cases e
 simp only[TAt]at h;rcases h with⟨d,e1,_⟩|⟨_,z2,_⟩|⟨_,z2,_⟩|⟨c',a,dx,C,xs,e0,e1,e2,e3,k,g⟩
 .rw[hf]at e1;cases e1
 .rw[e]at z2;cases z2
 .rw[e]at z2;cases z2
 .rw[e]at e0;cases e0;exact⟨a,dx,C,xs,e1,e2,e3,k,g⟩
theorem yA{i:Nat}{x:PyData×PyData}{c:Str}{k:PyData}(h:excC kvs=some c)(e:kvs[i]?=some (k,t))(kn:k≠.none):excC (kvs.set i x)=some c:=by
 cases kvs with
 |nil=>cases h
 | cons y r =>
  cases i with
  |zero =>
   simp at e;subst e;unfold excC at h
   split at h
   .rename_i z;simp at z;exact(kn z.1.1).elim
   .cases h
  |succ i =>
   rw[List.set_cons_succ];unfold excC at h⊢
   split at h
   .rename_i z;simp at z;obtain⟨rfl,rfl⟩:=z;exact h
   .cases h
theorem TAt.set{K:Kd}{H:Hp}{τ:List (List Nat×Addr)}(nd:(τ.map (·.2)).Nodup){a:Addr}{o:HO}{n:PyData}(pe:Pers H (upd H a o)):∀{q p:List Nat}{t t0:PyData}{v:V},TAt K H τ p t v->getT t q=some t0->okW t q=true->τ.lookup (p++q)=some a->TAt K (upd H a o) τ (p++q) n (.ref a)->(∀u,TAt K H τ (p++q) t0 u->u = .ref a)->TAt K (upd H a o) τ p (setT t q n) v
 |[],p,t,t0,v,h,e,_,_,hn,hu=>by
  cases e;rw[List.append_nil]at hn hu;rw[hu v h];unfold setT;exact hn
 | i::q,p,t,t0,v,h,e,ok,ea,hn,hu=>by
  have other:∀(r:List Nat) (b:Addr),τ.lookup r=some b->r≠p++i::q->(upd H a o) b=H b:=fun r b z ne=>aw fun eb=>by
   subst eb;exact ne (r8 nd z ea)
  have ea':τ.lookup ((p++[i])++q)=some a:=by simpa using ea
  have hn':TAt K (upd H a o) τ ((p++[i])++q) n (.ref a):=by simpa using hn
  have hu':∀u,TAt K H τ ((p++[i])++q) t0 u->u = .ref a:=fun u z=>hu u (by simpa using z);simp only[getT]at e
  cases z:chD t i with
  |none=>rw[z]at e;cases e
  | some t1 =>
   rw[z]at e;have e':getT t1 q=some t0:=e;have sib:∀l,l≠0+i->∀r b,τ.lookup (p++l::r)=some b->(upd H a o) b=H b:=fun l hl r b zz=>other _ _ zz fun y=>by
    have:=List.append_cancel_left y;injection this with h1 _
    omega
   have self:∀b,τ.lookup p=some b->(upd H a o) b=H b:=fun b zz=>other _ _ zz fun y=>by
    have:=congrArg List.length y;simp at this
   cases t with
   |list ts =>
    have zi:ts[i]?=some t1:=z;have hg:ts.getD i .none=t1:=by rw[List.getD_eq_getElem?_getD,zi];rfl
    simp only[TAt]at h;obtain⟨b,xs,e1,e2,e3,g⟩:=h;simp only[setT,hg,TAt];refine⟨b,xs,e1,e2,(self b e1).trans e3,TAtL.setL pe g (fun v1 zv=>?_) sib⟩;obtain⟨v2,ev2,g2⟩:=g.get (j:=i) zi;rw[zv]at ev2;cases ev2;rw[Nat.zero_add]at g2⊢;exact TAt.set nd pe g2 e' (by simp only[okW,hg]at ok;exact ok) ea' hn' hu'
   | dict kvs =>
    simp only[chD]at z
    cases zi:kvs[i]? with
    |none=>rw[zi]at z;cases z
    |some kt =>
     obtain⟨k,t2⟩:=kt;rw[zi]at z;have kn:k≠.none:=fun w=>by subst w;cases z
     have e2:t2=t1:=by split at z<;>simp_all
     subst e2;have hg:kvs.getD i (.none,.none)=(k,t2):=by rw[List.getD_eq_getElem?_getD,zi];rfl
     simp only[okW,hg,Bool.and_eq_true,Bool.or_eq_true]at ok;rcases ok.1 with ok1|ok1
     .obtain⟨b,es,e1,e2,e3,g⟩:=h.kd ok1;have kd':isKd (kvs.set i (k,setT t2 q n))=true:=yX ok1 zi;obtain⟨n1,n2⟩:=ql kd';simp only[setT,hg,TAt];refine .inr (.inr (.inl ⟨n1,n2,b,es,e1,e2,(self b e1).trans e3,TAtK.setK pe g zi (fun v1 ⟨kk,zv⟩=>?_) sib⟩));obtain⟨kk2,v2,ev2,_,g2⟩:=g.get' (j:=i) zi;rw[zv]at ev2;cases ev2;rw[Nat.zero_add]at g2⊢;exact TAt.set nd pe g2 e' ok.2 ea' hn' hu'
     .obtain⟨c,ec⟩:=Option.isSome_iff_exists.mp ok1;obtain⟨b,dx,C,xs,e1,e2,e3,kc,g⟩:=h.ins ec;obtain⟨f0,rfl⟩:=g.key (List.mem_of_getElem? zi) kn;have ec':excC (kvs.set i (.str f0,setT t2 q n))=some c:=yA ec zi kn;simp only[setT,hg,TAt];refine .inr (.inr (.inr ⟨c,b,dx,C,xs,ec',e1,e2,(self b e1).trans e3,kc,TAtF.setF pe g zi (fun v1 g2=>?_) sib⟩));rw[Nat.zero_add]at g2⊢;exact TAt.set nd pe g2 e' ok.2 ea' hn' hu'
   |none=>cases z
   |bool _=>cases z
   |int _=>cases z
   |str _=>cases z
   |tuple _=>cases z
def onAt(P:Nat->List Nat->Prop):R->Prop
 | .at k p=>P k p
 |_=>False
def tW(P:PyData->Prop):R->Prop
 | .imm (.int i)=>P (.int i)
 | .imm (.str x)=>P (.str x)
 |_=>False
section
variable {K:Kx}{α:Al}{Hb H:Hp}{r:R}{v:V}{m:MSt}{σ:St}
theorem Gu{P:Nat->List Nat->Prop}(rr:RelR K α Hb H r v)(h:onAt P r):∃k p τ a,r = .at k p/\α[k]?=some (.T τ)/\τ.lookup p=some a/\v = .ref a/\P k p:=by
 unfold onAt at h
 split at h
 .obtain⟨τ,a,e1,e2,e3⟩:=rr;exact⟨_,_,τ,a,rfl,e1,e2,e3,h⟩
 .exact h.elim
theorem FE(rr:RelR K α Hb H r v)(h:tW P r):∃kk:Key,r = .imm (keyD kk)/\v=kV kk/\P (keyD kk):=by
 unfold tW at h
 split at h
 .rename_i i;exact⟨.inl i,rfl,aL (show Den K H (.int i) v from rr),h⟩
 .rename_i x;exact⟨.inr x,rfl,bq (show Den K H (.str x) v from rr),h⟩
 .exact h.elim
theorem Rel.dict(Rl:Rel K α m σ H){k:Nat}(e1:α[k]?=some (.T τ))(e2:τ.lookup p=some a)(e3:m.os[k]?=some [t])(e4:getT t p=some (.dict kvs))(e5:isKd kvs=true) :
  ∃es,H a=some (.dK es)/\TAtK K H τ p 0 kvs es:=by
 obtain⟨⟨t1,v0,z,g,_⟩,_⟩:=Rl.own k (.T τ) _ e1 e3;cases z;obtain⟨v',g'⟩:=g.get e4;rw[List.nil_append]at g';obtain⟨a',es,ea,_,ed,gk⟩:=g'.kd e5;rw[e2]at ea;cases ea;exact⟨es,ed,gk⟩
end
section
variable {X:Cx}{o i e:Expr}{wo wi we:WE}{pos pos':Pos}
def Iw(m:MSt)(k:Nat)(p:List Nat)(y d:PyData)(P:PyData->Prop):Prop:=∃t kvs,m.os[k]?=some [t]/\getT t p=some (.dict kvs)/\isKd kvs=true/\okW t p=true/\kvs.length<sizeLine/\P (setT t p (.dict (putD y (lfD d) kvs)))
def Cq(we wo wi:WE):WS:=fun D m=>we m fun rv m1=>cX (fun d=>wo m1 fun ro m2=>wi m2 fun ri m3=>onAt (fun k p=>tW (fun y=>Iw m3 k p y d fun t=>D.nx {m3 with os:=m3.os.set k [t]}) ri) ro) rv
theorem Az(hu:X.A.units+64<cLine)(he:ME X e we)(ho:ME X o wo)(hi:ME X i wi)(hs:swapsWith e (some (.Subscript o i pos')) pos.line X.env=pure false:=by rfl):MS X (.Assign [.Subscript o i pos'] e pos) (Cq we wo wi):=(Cv (by omega) ho hi he hs).wk fun D σ H ⟨α,m,De,Rl,hw,k⟩=>by
 refine⟨α,m,_,Rl,hw,fun r m1 v H1 q n1 Rl1 rr F1=>?_⟩;obtain⟨d,er,hd,q⟩:=dU rr q;refine⟨α,m1,_,Rl1,q,fun ro m2 ov H2 q2 n2 Rl2 rr2 F2=>⟨α,m2,_,Rl2,q2,fun ri m3 iv H3 q3 n3 Rl3 rr3 F3=>?_⟩⟩;obtain⟨kk,p,τ,a,rfl,e1,e2,rfl,q3⟩:=Gu rr2 q3;obtain⟨y,rfl,rfl,t,kvs,e3,e4,e5,e6,e7,q3⟩:=FE rr3 q3;obtain⟨es,ed,gk⟩:=Rl3.dict e1 e2 e3 e4 e5;have hd3:Den X.kx H3 d v:=(hd.mono (Rl1.pers F2)).mono (Rl2.pers F3);obtain⟨⟨t1,v0,z,g,a0,ea0,ev0⟩,mu⟩:=Rl3.own kk (.T τ) _ e1 e3;cases z;have pe:Pers H3 (upd H3 a (.dK (putK es y v))):=bx (.inr ⟨_,ed,rfl⟩);have nd:(τ.map (·.2)).Nodup:=((gh α).mp Rl3.nd).1 (.T τ) (List.mem_of_getElem? e1);have gk':TAtK X.kx (upd H3 a (.dK (putK es y v))) τ p 0 kvs es:=TAtK.monoP pe (fun i q b zb=>aw fun eb=>by
  subst eb;have:=congrArg List.length (r8 nd zb e2);simp at this) gk
 have new:TAt X.kx (upd H3 a (.dK (putK es y v))) τ p (.dict (putD (keyD y) (lfD d) kvs)) (.ref a):=by
  have gp:=gk'.put (kk:=y) (t':=lfD d) (v':=v) fun j=>u7 (hd3.mono pe);obtain⟨z1,z2⟩:=ql gp.kd;simp only[TAt];exact .inr (.inr (.inl ⟨z1,z2,a,_,e2,rfl,aC,gp⟩))
 have all:TAt X.kx (upd H3 a (.dK (putK es y v))) τ [] (setT t p (.dict (putD (keyD y) (lfD d) kvs))) v0:=TAt.set nd pe g e4 e6 (by rw[List.nil_append];exact e2) (by rw[List.nil_append];exact new) fun u hu'=>by
  rw[List.nil_append]at hu';obtain⟨a',es',ea',eu,_⟩:=hu'.kd e5;rw[e2]at ea';cases ea';exact eu
 obtain⟨R4,F4⟩:=Rl3.setW e1 pe (ds':=[setT t p (.dict (putD (keyD y) (lfD d) kvs))]) (fun b hb=>aw fun eb=>hb (eb▸bj e2)) ⟨⟨_,v0,rfl,all,a0,ea0,ev0⟩,fun b hb=>by
  by_cases eb:b=a
  .subst eb;exact⟨_,aC,rfl⟩
  .rw[aw eb];exact mu b hb⟩
 exact⟨a,_,rfl,DPut.k ed (by rw[<-gk.len];exact e7),k.nx α _ σ _ q3 (n3.trans (n2.trans n1)) R4 (.of R4 (((F1.trans F2).trans F3).trans F4))⟩
def lfKV(kvs:List (PyData×PyData)):List (PyData×PyData):=kvs.map fun kv=>(kv.1,lfD kv.2)
end
section
variable {m:MSt}{Q:R->MSt->Prop}{wo wi we:WE}{D:cZ}
theorem GJ{P:Nat->List Nat->Prop}{k:Nat}(h:P k p):onAt P (.at k p):=h
theorem sd{x:Str}(h:P (.str x)):tW P (.imm (.str x)):=h
theorem yR{i:Int}(h:P (.int i)):tW P (.imm (.int i)):=h
theorem GG(h:we m fun rv m1=>cX (fun d=>wo m1 fun ro m2=>wi m2 fun ri m3=>onAt (fun k p=>tW (fun y=>Iw m3 k p y d fun t=>D.nx {m3 with os:=m3.os.set k [t]}) ri) ro) rv):Cq we wo wi D m:=h
theorem gX{n:Nat}{P:MSt->Prop}(h:P {vs:=m.vs.set n (some (.at m.os.length [])),os:=m.os++[[t]],np:=m.np}):mw n P m (.newT t):=.inl h
end
section
variable {X:Cx}{o i e:Expr}{wo wi we:WE}{pos pos':Pos}
theorem qy(hu:X.A.units+64<cLine)(he:EE X e we)(ho:EE X o wo)(hi:EE X i wi)(hs:swapsWith e (some (.Subscript o i pos')) pos.line X.env=pure false:=by rfl):ES X (.Assign [.Subscript o i pos'] e pos) (Cq we wo wi):=⟨Az hu he.h ho.h hi.h hs⟩
end
def isFz:HO->Bool
 | .lst _=>true
 | .dK _=>true
 | .ext _=>true
 |_=>false
section
variable {X:Cx}{pins:List (Addr×Obj)}{σ:St}{H:Hp}{s:Shared}
theorem Inv.freezeU{u:HO}(I:Inv X pins σ H s)(h:H a=some u)(hu:isFz u=true):∃o,Inv X pins σ (upd H a (.frz o u)) s:=by
 have ok:=I.hok a u h;obtain⟨o,e⟩:∃o,s.heap.get? a=some o:=by
  cases u with
  |lst xs=>obtain⟨_,its,n,_,e⟩:=ok;exact⟨_,e⟩
  |dK kvs=>obtain⟨_,_,vs,_,o,_,_,e,_⟩:=ok;exact⟨_,e⟩
  |ext φ=>exact ok.2.1
  |_=>cases hu
 have nt:∀{b:Addr}{v:HO},H b=some v->v≠u->b≠a:=fun q z=>pH q h z;refine⟨o,I.un (h':=s.heap) (t':=s.toks) ⟨fun b ob q _ _ _=>q,fun b ob q _ _ _=>⟨ob.slots,q⟩,fun b ob q z _=>?_,fun b ob q _=>⟨ob,q⟩,fun b ys q=>?_,fun b ob v q=>?_,fun b ps q=>⟨#[],?_⟩⟩ fun b ob q=>?_⟩
 .rw[aw (Ne.symm (aZ h z))];exact z
 .rw[aw (nt q (by intro z;subst z;cases hu))];exact q
 .rw[aw (nt q (by intro z;subst z;cases hu))];exact q
 .rw[aw (nt q (by intro z;subst z;cases hu)),q];simp
 .have stay:∀{c:Addr}{v:HO},ObjOk X.prog X.w H s.heap c v->ObjOk X.prog X.w (upd H a (.frz o u)) s.heap c v:=fun x=>x.stay (fun _ _ _ z=>z) (fun c z=>by rw[aw (nt z (by intro z;subst z;cases hu))];exact z) fun c ys z=>by rw[aw (nt z (by intro z;subst z;cases hu))];exact z
  by_cases hb:b=a
  .subst hb;rw[aC]at q;cases q;exact⟨e,stay ok⟩
  .rw[aw hb]at q;exact stay (I.hok b ob q)
end
def tFrz(t:TS):TS:=fun D σ H=>∃a u,H a=some u/\isFz u=true/\∀o,t D σ (upd H a (.frz o u))
section
variable {X:Cx}{st:Stmt}{w:WS}
theorem IK{t:TS}(h:PS X st t):PS X st (tFrz t):=fun pins s σ H D I ⟨a,u,e,hu,q⟩=>by
 obtain⟨o,I'⟩:=I.freezeU e hu;exact h pins s σ _ D I' (q o)
theorem zc{K:Kx}{m:MSt}(Rl:Rel K α m σ H)(N:Ren ρ m m2):Rel K (ρ.map fun k=>α.getD k (.L 0)) m2 σ H/\Ext m.np α H (ρ.map fun k=>α.getD k (.L 0)) H:=by
 have pr:=fY Rl.len N.lt;have get:∀(k:Nat) (ao:Ao),(ρ.map fun k=>α.getD k (.L 0))[k]?=some ao->∃j:Nat,ρ[k]?=some j/\α[j]?=some ao:=fun k ao z=>by
  obtain⟨j,h1,h2⟩:=Paired.get2 pr z;exact⟨j,h1,h2⟩
 have fwd:∀(k j:Nat) (ao:Ao),ρ[k]?=some j->α[j]?=some ao->(ρ.map fun k=>α.getD k (.L 0))[k]?=some ao:=fun k j ao z1 z2=>by
  obtain⟨ao',z3,z4⟩:=Paired.get' pr z1;rw[z2]at z4;cases z4;exact z3
 have pre':(ρ.map fun k=>α.getD k (.L 0)).take m.np=α.take m.np:=by
  apply List.ext_getElem?;intro l;rw[List.getElem?_take,List.getElem?_take]
  by_cases hl:l<m.np
  .rw[if_pos hl,if_pos hl];have:ρ[l]?=some l:=by
    have e:=congrArg (·[l]?) N.pre;simp only[List.getElem?_take,if_pos hl]at e;rw[e,List.getElem?_range hl]
   have hl2:l<α.length:=Nat.lt_of_lt_of_le hl Rl.npl;rw[fwd l l α[l] this (List.getElem?_eq_getElem hl2),List.getElem?_eq_getElem hl2]
  .rw[if_neg hl,if_neg hl]
 have ext:Ext m.np α H (ρ.map fun k=>α.getD k (.L 0)) H:=⟨pre',Frm.refl _ _,fun a ha=>by
  obtain⟨k,ao,e1,hm⟩:=gN ha;obtain⟨j,_,e2⟩:=get k ao e1;exact .inl (iZ e2 hm),fun a ha=>by
  obtain⟨o,q,_⟩:=Rl.mem ha;exact⟨_,q⟩⟩
 refine⟨⟨fw Rl.nd N.nd pr,?_,fun k ao ds z1 z2=>?_,?_,fun j r z=>?_,?_,by rw[N.np];exact Rl.ebl,Rl.ebx.trans (ext.less Rl.ebl)⟩,ext⟩
 .rw[N.os,List.length_map,List.length_map]
 .obtain⟨j,q,qa⟩:=get k ao z1;rw[N.os,List.getElem?_map,q]at z2;have hj:j<m.os.length:=N.lt j (List.mem_of_getElem? q);have z2':m.os.getD j []=ds:=Option.some.inj z2;refine Rl.own j ao ds qa ?_;rw[<-z2',List.getD_eq_getElem?_getD,List.getElem?_eq_getElem hj];rfl
 .rw[N.vl];exact Rl.vlen
 .have h:=N.vs j r z
  cases r with
  |imm d=>exact Rl.var j (.imm d) h
  |new _=>exact h.elim
  |newT _=>exact h.elim
  |obj k =>
   obtain⟨j',q,h⟩:=h;obtain⟨v,ev,a,ea,e⟩:=Rl.var j (.obj j') h;exact⟨v,ev,a,fwd k j' _ q ea,e⟩
  | «at» k p =>
   obtain⟨j',q,h⟩:=h;obtain⟨v,ev,τ,a,ea,el,e⟩:=Rl.var j (.at j' p) h;exact⟨v,ev,τ,a,fwd k j' _ q ea,el,e⟩
 .rw[N.np,List.length_map];exact N.npl
structure Fz(k:Nat)(dd:PyData)(ρ:List Nat)(m m2:MSt):Prop where
 nd:ρ.Nodup
 lt:∀k∈ρ,k<m.os.length
 out:k∉ρ
 pre:ρ.take m.np=List.range m.np
 npl:m.np≤ρ.length
 npk:m.np≤k
 os:m2.os=ρ.map fun k=>m.os.getD k []
 np:m2.np=m.np
 vl:m2.vs.length=m.vs.length
 vs:∀(j:Nat) (r:R),m2.vs[j]?=some (some r)->RenR ρ m.vs[j]? r\/(r = .imm dd/\(m.vs[j]?=some (some (.obj k))\/m.vs[j]?=some (some (.at k []))))
def Fz.ren{k:Nat}{dd:PyData}{ρ:List Nat}{m m2:MSt}(F:Fz k dd ρ m m2):∃m3,Ren ρ m m3/\m3.np=m2.np/\m3.os=m2.os/\m3.vs.length=m2.vs.length/\∀(j:Nat) (r:R),m2.vs[j]?=some (some r)->m3.vs[j]?=some (some r)\/(r = .imm dd/\(m.vs[j]?=some (some (.obj k))\/m.vs[j]?=some (some (.at k [])))):=by
 classical
 refine⟨{m2 with vs:=m2.vs.mapIdx fun j o=>match o with|some r=>if RenR ρ m.vs[j]? r then some r else none|none=>none},⟨F.nd,F.lt,F.pre,F.npl,F.os,F.np,by rw[<-F.vl];simp,fun j r z=>?_⟩,rfl,rfl,by simp,fun j r z=>?_⟩
 .simp only[List.getElem?_mapIdx]at z
  cases q:m2.vs[j]? with
  |none=>rw[q]at z;cases z
  | some o =>
   rw[q]at z
   cases o with
   |none=>cases z
   |some r' =>
    simp only[Option.map_some,Option.some.injEq]at z
    split at z
    .cases z;assumption
    .cases z
 .rcases F.vs j r z with h|h
  .left;simp only[List.getElem?_mapIdx,z,Option.map_some,if_pos h]
  .exact .inr h
theorem o6{m:MSt}{De:cZ}{D:Ends}{k:Nat}{dd:PyData}{ao:Ao}{u:HO}(Rl:Rel X.kx α m σ H)(ke:EndsOk X.kx m.np α H De D)(F:Fz k dd ρ m m2)(ea:α[k]?=some ao)(hm:a∈ao.ads)(hu:H a=some u)(hfz:isFz u=true)(mu:Mu u=true)
  (den:∀o,Pers H (upd H a (.frz o u))->Den X.kx (upd H a (.frz o u)) dd (.ref a)) (name:∀(j:Nat) (v:V),(m.vs[j]?=some (some (.obj k))\/m.vs[j]?=some (some (.at k [])))->σ[j]?=some (some v)->v = .ref a) (hw:w De m2):tFrz (tMS X.kx w) D σ H:=by
 obtain⟨m3,N,np3,os3,vl3,vs3⟩:=F.ren;obtain⟨R3,x3⟩:=zc Rl N;refine⟨a,u,hu,hfz,fun o=>?_⟩;have pe:Pers H (upd H a (.frz o u)):=bx (.inr ⟨u,hu,mu⟩);have aα:a∈ads α:=iZ ea hm;have out:a∉ads (ρ.map fun k=>α.getD k (.L 0)):=fun z=>by
  obtain⟨i,x,e1,e2⟩:=gN z;obtain⟨j,h1,h2⟩:=Paired.get2 (fY Rl.len N.lt) e1;exact fJ Rl.nd ea h2 (fun z=>F.out (z▸List.mem_of_getElem? h1)) hm e2
 have xx:Ext m.np α H (ρ.map fun k=>α.getD k (.L 0)) (upd H a (.frz o u)):=⟨x3.pre,fun b ob e n=>by rw[aw (fun z=>n (by rw[z];exact aα))];exact e,x3.new,fun b hb=>by
  by_cases eb:b=a
  .subst eb;exact⟨_,aC⟩
  .rw[aw eb];exact x3.old b hb⟩
 have R4:=R3.at' pe (fun b hb=>aw fun z=>out (z▸hb)) (Rl.ebx.trans (xx.less Rl.ebl));refine⟨_,m2,De,⟨R4.nd,by rw[R4.len,os3],fun k ao ds z1 z2=>R4.own k ao ds z1 (by rw[os3];exact z2),by rw[R4.vlen,vl3],fun j r z=>?_,by rw[<-np3];exact R4.npl,by rw[<-np3];exact R4.ebl,R4.ebx⟩,hw,by rw[F.np];exact ke.ext xx⟩;rcases vs3 j r z with h|⟨rfl,h⟩
 .exact R4.var j r h
 .obtain⟨v,ev⟩:∃v,σ[j]?=some (some v):=by
   rcases h with h|h
   .obtain⟨v,ev,_⟩:=Rl.var j _ h;exact⟨v,ev⟩
   .obtain⟨v,ev,_⟩:=Rl.var j _ h;exact⟨v,ev⟩
  refine⟨v,ev,?_⟩;rw[name j v h ev];exact den o pe
theorem ur(d:PyData):u6 (lfD d)=some d:=by cases d<;>rfl
theorem fzKK{K:Kd}{H:Hp}{τ:List (List Nat×Addr)}{p:List Nat}:∀{kvs:List (PyData×PyData)}{i:Nat}{es:List (Key×V)},TAtK K H τ p i (lfKV kvs) es->DenKK K H kvs es
 |[],_,_,h=>by simpa only[lfKV,List.map_nil,TAtK,DenKK]using h
 |(k,d)::r,i,es,h=>by
  simp only[lfKV,List.map_cons,TAtK]at h;obtain⟨kk,v,vs,rfl,g0,g1,g2⟩:=h;simp only[DenKK];exact⟨kk,v,vs,rfl,g0,js g1 (ur d),fzKK g2⟩
def wFzK(w:WS):WS:=fun D m=>∃(k j:Nat) (kvs:List (PyData×PyData)) (ρ:List Nat) (m2:MSt),m.vs[j]?=some (some (.at k []))/\m.os[k]?=some [.dict (lfKV kvs)]/\isKd (lfKV kvs)=true/\Fz k (.dict kvs) ρ m m2/\w D m2
theorem DI(h:MS X st w):MS X st (wFzK w):=(IK h).wk fun D σ H ⟨α,m,De,Rl,⟨k,j0,kvs,ρ,m2,ej,eo,kd,F,hw⟩,ke⟩=>by
 obtain⟨v,ev,τ,a,ea,el,rfl⟩:=Rl.var j0 _ ej;obtain⟨es,hx,g⟩:=Rl.dict ea el eo rfl kd;refine o6 Rl ke F ea (bj el) hx rfl rfl (fun o pe=>?_) (fun j v hj evj=>?_) hw
 .simp only[Den];exact⟨a,rfl,.inr (.inl ⟨es,o,aC,(fzKK g).mono pe⟩)⟩
 .rcases hj with hj|hj
  .obtain⟨v',ev',a',ea',_⟩:=Rl.var j _ hj;rw[ea]at ea';cases ea'
  .obtain⟨v',ev',τ',a',ea',el',rfl⟩:=Rl.var j _ hj;rw[ea]at ea';cases ea';rw[el]at el';cases el';rw[evj]at ev';cases ev';rfl
theorem Bx(h:ES X st w):ES X st (wFzK w):=⟨DI h.h⟩
end
def FzVs(k:Nat)(dd:PyData)(ρ:List Nat):List (Option R)->List (Option R)->Prop
 |o::os,q::qs=>(RenO ρ o q\/(q=some (.imm dd)/\(o=some (.obj k)\/o=some (.at k []))))/\FzVs k dd ρ os qs
 |[],[]=>True
 |_,_=>False
theorem FzVs.len{k:Nat}{dd:PyData}{ρ:List Nat}:∀{os qs:List (Option R)},FzVs k dd ρ os qs->qs.length=os.length
 |[],[],_=>rfl
 |_::_,_::_,h=>congrArg (· + 1) (FzVs.len h.2)
 |[],_::_,h=>h.elim
 |_::_,[],h=>h.elim
theorem FzVs.get{k:Nat}{dd:PyData}{ρ:List Nat}:∀{os qs:List (Option R)},FzVs k dd ρ os qs->∀(j:Nat) (r:R),qs[j]?=some (some r)->RenR ρ os[j]? r\/(r = .imm dd/\(os[j]?=some (some (.obj k))\/os[j]?=some (some (.at k []))))
 |o::os,q::qs,h,0,r,e=>by
  have e':q=some r:=by simpa using e
  subst e';rcases h.1 with h|⟨h1,h2⟩
  .exact .inl h
  .cases h1;exact .inr ⟨rfl,by simpa using h2⟩
 |o::os,q::qs,h,j+1,r,e=>by simpa using FzVs.get h.2 j r (by simpa using e)
 |[],[],_,_,_,e=>by simp at e
 |[],_::_,h,_,_,_=>h.elim
 |_::_,[],h,_,_,_=>h.elim
theorem ya{k:Nat}{dd:PyData}{m:MSt}(nd:decide ρ.Nodup=true)(lt:(ρ.all fun k=>Nat.blt k m.os.length)=true)(out:(ρ.all fun i=>i != k)=true)(pre:ρ.take m.np=List.range m.np)(npl:Nat.ble m.np ρ.length=true)(npk:Nat.ble m.np k=true)(os:m2.os=ρ.map fun k=>m.os.getD k [])(np:m2.np=m.np)(vs:FzVs k dd ρ m.vs m2.vs):Fz k dd ρ m m2 :=
 ⟨of_decide_eq_true nd,fun k hk=>Nat.blt_eq.mp (List.all_eq_true.mp lt k hk),fun z=>by simpa using List.all_eq_true.mp out k z,pre,Nat.le_of_ble_eq_true npl,Nat.le_of_ble_eq_true npk,os,np,vs.len,fun j r e=>vs.get j r e⟩
theorem Kh{w:WS}{D:cZ}{m:MSt}(k j:Nat)(kvs:List (PyData×PyData))(ρ:List Nat)(m2:MSt)(e1:m.vs[j]?=some (some (.at k [])))(e2:m.os[k]?=some [.dict (lfKV kvs)])(e3:isKd (lfKV kvs)=true)(F:Fz k (.dict kvs) ρ m m2)(h:w D m2):wFzK w D m:=⟨k,j,kvs,ρ,m2,e1,e2,e3,F,h⟩
noncomputable instance instDecPyData:DecidableEq PyData:=fun a b=>Classical.propDecidable (a=b)
mutual
def i9:PyData->Nat
 | .int _=>1
 | .str _=>1
 | .tuple ds=>dN ds+1
 |_=>0
def dN:List PyData->Nat
 |[]=>0
 |d::ds=>i9 d+dN ds
end
def kyD(d:PyData):Bool:=(match d with| .tuple _=>true|_=>false)&&(hkD d&&(d.canLay0&&decide (d.depth≤7)))
theorem gC{d:PyData}(h:kyD d=true):∃ds,d = .tuple ds/\hkA ds=true/\d.canLay0=true/\d.depth≤7:=by
 unfold kyD at h;rw[Bool.and_eq_true,Bool.and_eq_true,Bool.and_eq_true,decide_eq_true_eq]at h
 cases d with
 |tuple ds=>exact⟨ds,rfl,by simpa only[hkD]using h.2.1,h.2.2.1,h.2.2.2⟩
 |_=>simp at h
section
variable {w:World}{prog:Program}
theorem og(w:World):∀a b:List PyData,gv w (a++b)=gv w a++gv w b
 |[],b=>by simp[gv]
 |d::a,b=>by simp only[List.cons_append,gv,og w a b]
theorem kM:∀a b:List PyData,dN (a++b)=dN a+dN b
 |[],b=>by simp[dN]
 |d::a,b=>by simp only[List.cons_append,dN,kM a b];omega
theorem oO:∀{ds:List PyData}{d:PyData},hkA ds=true->d∈ds->hkD d=true
 |x::ds,d,h,hm=>by
  simp only[hkA,Bool.and_eq_true]at h;obtain rfl|hm:=List.mem_cons.mp hm
  .exact h.1
  .exact oO h.2 hm
theorem i6{ds:List PyData}{d:PyData}(h:d∈ds):d.depth≤PyData.depthAll ds:=by
 induction ds with
 |nil=>cases h
 |cons x ds ih =>
  show _≤max x.depth (PyData.depthAll ds);obtain rfl|h:=List.mem_cons.mp h
  .omega
  .have:=ih h;omega
mutual
theorem kO:∀(d:PyData) {A:Around}{E:Value->Shared->Prop}{s:Shared}{v:Value}{as:List Addr}{Q:Int->Shared->Prop},hkD d=true->Reads s.heap v d as->A.units+d.depth<cLine->Q (dH w d) {s with toks:=s.toks+i9 d}->wpAny (model prog w) A (pyHash v) Q E s
 | .int i,A,E,s,v,as,Q,_,r,_,h=>by
  cases r;exact wpAny_pyHash_int (by simpa only[dH,i9]using h)
 | .str x,A,E,s,v,as,Q,_,r,_,h=>by
  cases r;exact wpAny_pyHash_str (by simpa only[dH,i9]using h)
 | .tuple ds,A,E,s,v,as,Q,hk,r,hu,h=>by
  cases r with
  | @tuple a o vs n _ _ ho hc hd hr =>
   have hT:s.TypeIs (.ref a) "tuple" :=⟨o,ho,hc⟩;have hu0:A.units<cLine:=Nat.lt_of_le_of_lt (Nat.le_add_right _ _) hu;have sp:∀{P:Option Value->Shared->Prop},P (some (.builtin "tuple.__hash__")) s->wpAny (model prog w) A (specialOf (.ref a) "__hash__") P E s:=fun p=>wpAny_specialOf hT F.slot_tuple_hash.lookup p;simp only[dH,i9]at h;refine wpAny_bind (m:=cRoomFor "hash" [.ref a]) (wpAny_cRoomFor_or (.inr hu0) (wpAny_bind (m:=specialOf _ _) (sp ?_)));rw[if_neg (show ¬(some (Value.builtin "tuple.__hash__")==some Value.none)=true by rw[beq_builtin_none];decide)];refine wpAny_bind (m:=specialOf _ _) (sp (wpAny_bind (m:=callSpecialIfBoundUnlessNone? (.ref a) "__hash__" _) ?_));refine wpAny_callSpecialIfBoundUnlessNone?_slot hT F.slot_tuple_hash (wpAny_call_entry F.slot_tuple_hash hT F.entry_tuple_hash (wpAny_bind (m:=Builtin.Tuple.tupleItemsOf (.ref a)) (wpAny_tupleItemsOf ho hd ?_)) (F.args_tuple_hash_1 _));refine wpAny_bind ?_;rw[<-Array.forIn_toList];refine wpAny_forIn_list _
    (fun rest (b:Array Int) s'=>∃done left bs,ds=done++left/\ReadsAll s.heap rest left bs/\b.toList=gv w done/\s'={s with toks:=s.toks+dN done})
    _ ?_ ?_ _ _ ⟨[],ds,_,rfl,hr,by simp[gv],by simp[dN]⟩
   .rintro x rest b s' ⟨done,left,bs,hds,hl,hb,rfl⟩
    cases hl with
    | @cons _ _ d ds' as1 bs1 r1 r2 =>
     have hm:d∈ds:=by rw[hds];simp
     refine wpAny_bind (qT ds d hm (oO (by simpa only[hkD]using hk) hm) (s:={s with toks:=s.toks+dN done}) r1 ?_ ?_)
     .have:=i6 hm;have e:(PyData.tuple ds).depth=PyData.depthAll ds+1:=rfl;show A.units+1+d.depth<cLine;omega
     .have fin:∃done' left' bs',ds=done'++left'/\ReadsAll s.heap rest left' bs'/\(b.push (dH w d)).toList=gv w done'/\({s with toks:=s.toks+dN done+i9 d}:Shared)={s with toks:=s.toks+dN done' }:=by
       refine⟨done++[d],ds',_,by rw[hds];simp,r2,?_,?_⟩
       .rw[Array.toList_push,hb,og];simp[gv]
       .rw[kM,Nat.add_assoc];simp[dN]
      first
       |exact wpAny_pure fin
       |exact wpAny_bind (wpAny_pure (wpAny_pure fin))
   .rintro b s' ⟨done,left,bs,hds,hl,hb,rfl⟩;cases hl;rw[List.append_nil]at hds;subst hds;change wpAny _ _ (retInt (Builtin.Tuple.tupleHashOf (b.toList:List Int))) _ _ _;rw[hb];refine wpAny_ret_mkInt ?_;show wpAny _ _ (if (decide (-(2:Int)^63≤Builtin.Tuple.tupleHashOf (gv w ds))&&decide (Builtin.Tuple.tupleHashOf (gv w ds)<2^63))=true then _ else _) Q E _;unfold reduceHash at h
    by_cases hr:(decide (-(2:Int)^63≤Builtin.Tuple.tupleHashOf (gv w ds))&&decide (Builtin.Tuple.tupleHashOf (gv w ds)<2^63))=true
    .rw[if_pos hr];rw[if_pos hr]at h;refine wpAny_pure ?_;simpa[Nat.add_assoc]using h
    .rw[if_neg hr];rw[if_neg hr]at h;refine wpAny_bind (m:=rule _) (wpAny_rule (wpAny_pure ?_));simpa[Nat.add_assoc]using h
 | .none,_,_,_,_,_,_,hk,_,_,_=>by simp only[hkD]at hk;cases hk
 | .bool _,_,_,_,_,_,_,hk,_,_,_=>by simp only[hkD]at hk;cases hk
 | .list _,_,_,_,_,_,_,hk,_,_,_=>by simp only[hkD]at hk;cases hk
 | .dict _,_,_,_,_,_,_,hk,_,_,_=>by simp only[hkD]at hk;cases hk
theorem qT:∀(ds:List PyData) (d:PyData),d∈ds->∀{A:Around}{E:Value->Shared->Prop}{s:Shared}{v:Value}{as:List Addr}{Q:Int->Shared->Prop},hkD d=true->Reads s.heap v d as->A.units+d.depth<cLine->Q (dH w d) {s with toks:=s.toks+i9 d}->wpAny (model prog w) A (pyHash v) Q E s
 |x::ds,d,hm=>by
  intro hk r hu h;rcases List.mem_cons.mp hm with e|hm'
  .rw[e]at hk r hu h;exact kO x hk r hu h
  .exact qT ds d hm' hk r hu h
end
mutual
theorem nh:∀(a b:PyData),hkD a=true->hkD b=true->PyData.eqv a b=decide (a=b)
 | .int i,b,_,hb=>by
  cases b with
  |int j =>
   show decide (i=j)=_
   by_cases h:i=j
   .subst h;rw[decide_eq_true rfl,decide_eq_true rfl]
   .rw[decide_eq_false h,decide_eq_false (fun z=>h (by cases z;rfl))]
  |str _=>rw[decide_eq_false (fun z=>by cases z)];rfl
  |tuple _=>rw[decide_eq_false (fun z=>by cases z)];rfl
  |none=>simp only[hkD]at hb;cases hb
  |bool _=>simp only[hkD]at hb;cases hb
  |list _=>simp only[hkD]at hb;cases hb
  |dict _=>simp only[hkD]at hb;cases hb
 | .str i,b,_,hb=>by
  cases b with
  |str j =>
   show decide (i=j)=_
   by_cases h:i=j
   .subst h;rw[decide_eq_true rfl,decide_eq_true rfl]
   .rw[decide_eq_false h,decide_eq_false (fun z=>h (by cases z;rfl))]
  |int _=>rw[decide_eq_false (fun z=>by cases z)];rfl
  |tuple _=>rw[decide_eq_false (fun z=>by cases z)];rfl
  |none=>simp only[hkD]at hb;cases hb
  |bool _=>simp only[hkD]at hb;cases hb
  |list _=>simp only[hkD]at hb;cases hb
  |dict _=>simp only[hkD]at hb;cases hb
 | .tuple ds,b,ha,hb=>by
  cases b with
  |tuple es =>
   simp only[PyData.eqv];rw[wR ds es (by simpa only[hkD]using ha) (by simpa only[hkD]using hb)]
   by_cases h:ds=es
   .subst h;rw[decide_eq_true rfl,decide_eq_true rfl]
   .rw[decide_eq_false h,decide_eq_false (fun z=>h (by cases z;rfl))]
  |int _=>rw[decide_eq_false (fun z=>by cases z)];rfl
  |str _=>rw[decide_eq_false (fun z=>by cases z)];rfl
  |none=>simp only[hkD]at hb;cases hb
  |bool _=>simp only[hkD]at hb;cases hb
  |list _=>simp only[hkD]at hb;cases hb
  |dict _=>simp only[hkD]at hb;cases hb
 | .none,_,ha,_=>by simp only[hkD]at ha;cases ha
 | .bool _,_,ha,_=>by simp only[hkD]at ha;cases ha
 | .list _,_,ha,_=>by simp only[hkD]at ha;cases ha
 | .dict _,_,ha,_=>by simp only[hkD]at ha;cases ha
theorem wR:∀(a b:List PyData),hkA a=true->hkA b=true->PyData.eqvAll a b=decide (a=b)
 |[],[],_,_=>by rw[decide_eq_true rfl];rfl
 |[],_::_,_,_=>by rw[decide_eq_false (fun z=>by cases z)];rfl
 |_::_,[],_,_=>by rw[decide_eq_false (fun z=>by cases z)];rfl
 | x::a,y::b,ha,hb=>by
  simp only[hkA,Bool.and_eq_true]at ha hb;simp only[PyData.eqvAll];rw[nh x y ha.1 hb.1,wR a b ha.2 hb.2]
  by_cases h1:x=y
  .by_cases h2:a=b
   .subst h1 h2;rw[decide_eq_true rfl,decide_eq_true rfl,decide_eq_true rfl];rfl
   .rw[decide_eq_false h2,Bool.and_false,decide_eq_false (fun z=>h2 (by cases z;rfl))]
  .rw[decide_eq_false h1,Bool.false_and,decide_eq_false (fun z=>h1 (by cases z;rfl))]
end
mutual
theorem Reads.hkeep{h h':Heap}{d:Addr}{o:Obj}{es:Array DictEntry}{ep:Nat}(ho:h.get? d=some o)(hd:o.data = .dict es ep)(hs:Heap.SameBut d h h'):∀(k:PyData) {v:Value}{as:List Addr},hkD k=true->Reads h v k as->Reads h' v k as
 | .int _,_,_,_,r=>by cases r;exact .int _ _
 | .str _,_,_,_,r=>by cases r;exact .str _ _
 | .tuple ds,_,_,hk,r=>by
  cases r with
  | @tuple a o' vs n _ _ h1 h2 h3 h4 =>
   have hne:a≠d:=by
    rintro rfl;rw[ho]at h1;cases h1;rw[hd]at h3;cases h3
   exact .tuple ((hs.2 a hne).trans h1) h2 h3 (ReadsAll.hkeep ho hd hs ds (by simpa only[hkD]using hk) h4)
 | .none,_,_,hk,_=>by simp only[hkD]at hk;cases hk
 | .bool _,_,_,hk,_=>by simp only[hkD]at hk;cases hk
 | .list _,_,_,hk,_=>by simp only[hkD]at hk;cases hk
 | .dict _,_,_,hk,_=>by simp only[hkD]at hk;cases hk
theorem ReadsAll.hkeep{h h':Heap}{d:Addr}{o:Obj}{es:Array DictEntry}{ep:Nat}(ho:h.get? d=some o)(hd:o.data = .dict es ep)(hs:Heap.SameBut d h h'):∀(ks:List PyData) {vs:List Value}{as:List Addr},hkA ks=true->ReadsAll h vs ks as->ReadsAll h' vs ks as
 |[],_,_,_,r=>by cases r;exact .nil
 |k::ks,_,_,hk,r=>by
  simp only[hkA,Bool.and_eq_true]at hk
  cases r with
  |cons r1 r2=>exact .cons (Reads.hkeep ho hd hs k hk.1 r1) (ReadsAll.hkeep ho hd hs ks hk.2 r2)
end
mutual
theorem jY:∀(d:PyData) {A:Around}{E:Value->Shared->Prop}{s:Shared}{v:Value}{as:List Addr}{n:Nat}{Q:Bool->Shared->Prop},hkD d=true->Reads s.heap v d as->d.depth≤n->Q true s->wpAny (model prog w) A (eqIsQuiet n v) Q E s
 | .int _,_,_,_,_,_,_,_,_,r,_,h=>by cases r;rw[eqIsQuiet_byValue _ rfl];exact wpAny_pure h
 | .str _,_,_,_,_,_,_,_,_,r,_,h=>by cases r;rw[eqIsQuiet_byValue _ rfl];exact wpAny_pure h
 | .tuple ds,A,E,s,v,as,n,Q,hk,r,hn,h=>by
  cases r with
  | @tuple a o vs nn _ _ ho hc hd hr =>
   have hT:s.TypeIs (.ref a) "tuple" :=⟨o,ho,hc⟩;have e:(PyData.tuple ds).depth=PyData.depthAll ds+1:=rfl
   cases n with
   |zero=>omega
   | succ n =>
    unfold eqIsQuiet;refine wpAny_bind (m:=specialOf _ _) (wpAny_specialOf hT F.slot_tuple_eq.lookup (wpAny_bind (m:=isInstance (.ref a) (.type "tuple")) (wpAny_isInstance hT isSubtype_tuple_tuple ?_)));simp only[if_false,Bool.false_eq_true,Bool.not_true];refine wpAny_bind (m:=seqItems? (.ref a)) (wpAny_seqItems ho hd ?_);refine wpAny_bind ?_;show wpAny _ _ (forIn vs _ _) _ _ s;rw[<-Array.forIn_toList];refine wpAny_forIn_list _ (fun rest r s'=>r.1=none/\s'=s/\∃left bs,(∀d∈left,d∈ds)/\ReadsAll s.heap rest left bs) _ ?_ ?_ _ _ ⟨rfl,rfl,ds,_,fun _ h=>h,hr⟩
    .rintro x rest r s' ⟨hr',rfl,left,bs,hsub,hl⟩
     cases hl with
     | @cons _ _ d ds' as1 bs1 r1 r2 =>
      have hm:d∈ds:=hsub d List.mem_cons_self;refine wpAny_bind (oo ds d hm (oO (by simpa only[hkD]using hk) hm) r1 (by have:=i6 hm;omega) ?_);simp only[if_false,Bool.false_eq_true,Bool.not_true];exact wpAny_pure ⟨rfl,rfl,ds',_,fun z hz=>hsub z (List.mem_cons_of_mem _ hz),r2⟩
    .rintro⟨r1,r2⟩ s' ⟨hr',rfl,_⟩;simp only at hr';subst hr';exact wpAny_pure h
 | .none,_,_,_,_,_,_,_,hk,_,_,_=>by simp only[hkD]at hk;cases hk
 | .bool _,_,_,_,_,_,_,_,hk,_,_,_=>by simp only[hkD]at hk;cases hk
 | .list _,_,_,_,_,_,_,_,hk,_,_,_=>by simp only[hkD]at hk;cases hk
 | .dict _,_,_,_,_,_,_,_,hk,_,_,_=>by simp only[hkD]at hk;cases hk
theorem oo:∀(ds:List PyData) (d:PyData),d∈ds->∀{A:Around}{E:Value->Shared->Prop}{s:Shared}{v:Value}{as:List Addr}{n:Nat}{Q:Bool->Shared->Prop},hkD d=true->Reads s.heap v d as->d.depth≤n->Q true s->wpAny (model prog w) A (eqIsQuiet n v) Q E s
 |x::ds,d,hm=>by
  intro hk r hu h;rcases List.mem_cons.mp hm with e|hm'
  .rw[e]at hk r hu;exact jY x hk r hu h
  .exact oo ds d hm' hk r hu h
end
theorem km{d:PyData}(h:kyD d=true):hkD d=true:=by
 obtain⟨ds,rfl,h1,_⟩:=gC h;simpa only[hkD]using h1
noncomputable def jb (prog:Program) (w:World):HeapKind prog w PyData where
 is:=fun h d a=>(∃as,Reads h (.ref a) d as)/\kyD d=true
 hash:=dH w
 draws:=i9
 room:=fun A=>A.units+20<cLine
 inj:=fun {h a x y} ⟨⟨as,r1⟩,k1⟩ ⟨⟨bs,r2⟩,k2⟩=>by
  obtain⟨ds,rfl,_,hl,_⟩:=gC k1;exact SeqAt.Reads.unique _ _ _ _ _ hl r1 r2
 keeps:=fun⟨⟨as,r⟩,k⟩ ho hd hs=>⟨⟨as,Reads.hkeep ho hd hs _ (km k) r⟩,k⟩
 pyHash:=fun {A E s k a Q} hu ⟨⟨as,r⟩,hk⟩ h=>by
  obtain⟨ds,e,_,_,hd⟩:=gC hk;exact kO k (km hk) r (by omega) h
 eqBool:=fun {A E s x y a b Q} hu ⟨⟨as,r1⟩,k1⟩ ⟨⟨bs,r2⟩,k2⟩ h=>by
  obtain⟨ds,e1,_,l1,d1⟩:=gC k1;obtain⟨es,e2,_,l2,d2⟩:=gC k2;refine SeqAt.eqAt_reads x y A s _ _ _ _ r1 r2 l1 l2 (by omega) prog w E Q ?_;rw[nh x y (km k1) (km k2)];exact h
 quiet:=fun {A E s k a Q} ⟨⟨as,r⟩,hk⟩ h=>by
  obtain⟨ds,e,_,_,hd⟩:=gC hk;exact jY k (km hk) r (by omega) h
end
def cc(k:PyData):List (PyData×PyData)->Option PyData
 |[]=>none
 |(k',d)::r=>if PyData.eqv k' k=true then some d else cc k r
def putP(k d:PyData):List (PyData×PyData)->List (PyData×PyData)
 |[]=>[(k,d)]
 |(k',d')::r=>if PyData.eqv k' k=true then(k',d)::r else(k',d')::putP k d r
def kyA(kvs:List (PyData×PyData)):Bool:=kvs.all fun kv=>kyD kv.1
def kdD:PyData->Bool
 | .int _=>true
 | .str _=>true
 |_=>false
def oneK(kvs:List (PyData×PyData))(k:PyData):Bool:=(isKd kvs&&kdD k)||(kyA kvs&&kyD k)
theorem lB(kvs:List (PyData×PyData)):isKd kvs=kvs.all fun kv=>kdD kv.1:=by
 unfold isKd
 congr 1
theorem jA{k:PyData}(h:kdD k=true):∃kk:Key,k=keyD kk:=by
 cases k with
 |int i=>exact⟨.inl i,rfl⟩
 |str x=>exact⟨.inr x,rfl⟩
 |_=>cases h
theorem vK(a b:Key):PyData.eqv (keyD a) (keyD b)=decide (a=b):=by
 cases a<;>cases b<;>simp[keyD,PyData.eqv,Bool.beq_eq_decide_eq]
def IsDc(K:Kd)(H:Hp)(a:Addr)(kvs:List (PyData×PyData)):Prop :=
 (∃es,Rd H a (.dK es)/\DenKK K H kvs es)\/∃es,Rd H a (dX a es)/\isKd kvs=false/\(kvs.map (·.1)).Nodup/\DenKV K H kvs es
section
variable {K:Kd}{H H':Hp}
theorem fzKV{τ:List (List Nat×Addr)}{p:List Nat}:∀{kvs:List (PyData×PyData)}{i:Nat}{es:List (Int×V×V)},TAtD K H τ p i (lfKV kvs) es->DenKV K H kvs es
 |[],_,_,h=>by simpa only[lfKV,List.map_nil,TAtD,DenKV]using h
 |(k,d)::r,i,es,h=>by
  simp only[lfKV,List.map_cons,TAtD]at h;obtain⟨u,v,vs,rfl,g0,g1,g2⟩:=h;simp only[DenKV];exact⟨u,v,vs,rfl,g0,js g1 (ur d),fzKV g2⟩
theorem Fw{τ:List (List Nat×Addr)}{p:List Nat}:∀{kvs:List (PyData×PyData)}{i:Nat}{es:List (Int×V×V)},DenKV K H kvs es->TAtD K H τ p i (lfKV kvs) es
 |[],_,_,h=>by simpa only[lfKV,List.map_nil,TAtD,DenKV]using h
 |(k,d)::r,i,es,h=>by
  simp only[DenKV]at h;obtain⟨u,v,vs,rfl,g0,g1,g2⟩:=h;simp only[lfKV,List.map_cons,TAtD];exact⟨u,v,vs,rfl,g0,u7 g1,Fw g2⟩
theorem gU(kvs:List (PyData×PyData)):(lfKV kvs).map (·.1)=kvs.map (·.1):=by
 unfold lfKV;rw[List.map_map];rfl
theorem iR(kvs:List (PyData×PyData)):isKd (lfKV kvs)=isKd kvs:=by
 unfold isKd lfKV;rw[List.all_map];rfl
theorem nI(h:isKd kvs=true\/kyA kvs=true):fzOf kvs=none/\excC kvs=none:=by
 cases kvs with
 |nil=>exact⟨rfl,rfl⟩
 | cons x r =>
  obtain⟨k,d⟩:=x
  cases k with
  |none =>
   rcases h with h|h
   .simp[isKd]at h
   .simp[kyA,kyD]at h
  |int _=>exact⟨rfl,rfl⟩
  |str _=>exact⟨rfl,rfl⟩
  |bool _=>exact⟨rfl,rfl⟩
  |list _=>exact⟨rfl,rfl⟩
  |tuple _=>exact⟨rfl,rfl⟩
  |dict _=>exact⟨rfl,rfl⟩
end
def dcM(m:MSt)(kvs:List (PyData×PyData)):R->Prop
 | .imm (.dict es)=>es=kvs
 | .at k p=>p=[]/\m.os[k]?=some [.dict (lfKV kvs)]
 |_=>False
theorem RelR.dc{K:Kx}{m:MSt}{H0:Hp}{r:R}(R:Rel K α m σ H)(h:RelR K α H0 H r v)(e:dcM m kvs r)(hk:isKd kvs=true\/kyA kvs=true):∃a,v = .ref a/\IsDc K H a kvs:=by
 obtain⟨n1,n2⟩:=nI hk
 cases r with
 | imm d =>
  cases d with
  |dict es =>
   have e':es=kvs:=e;subst e';have h':Den K H (.dict es) v:=h;simp only[Den]at h';obtain⟨a,rfl,h'⟩:=h';refine⟨a,rfl,?_⟩;rcases h' with⟨xs,⟨o,f⟩,kk,g⟩|⟨xs,o,f,g⟩|⟨c,xs,ec,_⟩
   .exact .inr ⟨xs,.inr ⟨o,f⟩,kk.1,kk.2.1,g⟩
   .exact .inl ⟨xs,.inr ⟨o,f⟩,g⟩
   .rw[n2]at ec;cases ec
  |none=>exact e.elim
  |bool _=>exact e.elim
  |int _=>exact e.elim
  |str _=>exact e.elim
  |list _=>exact e.elim
  |tuple _=>exact e.elim
 | «at» k p =>
  obtain⟨rfl,eo⟩:=e;obtain⟨τ,a,e1,e2,rfl⟩:=h;obtain⟨⟨t1,v0,z,g,a0,el,ev⟩,_⟩:=R.own k _ _ e1 eo;cases z;rw[e2]at el;cases el;subst ev;refine⟨a,rfl,?_⟩;have n3:fzOf (lfKV kvs)=none/\excC (lfKV kvs)=none:=nI (by
   rcases hk with hk|hk
   .exact .inl (by rw[iR];exact hk)
   .refine .inr ?_;unfold kyA lfKV at *;rw[List.all_map];exact hk)
  simp only[TAt]at g;rcases g with⟨d,e1,_⟩|⟨_,_,b,es,e1,e3,e4,kk,g⟩|⟨_,_,b,es,e1,e3,e4,g⟩|⟨c,b,dx,C,xs,e0,_⟩
  .rw[n3.1]at e1;cases e1
  .cases e3;rw[e2]at e1;exact .inr ⟨es,.inl e4,by rw[<-iR];exact kk.1,by rw[<-gU];exact kk.2.1,fzKV g⟩
  .cases e3;exact .inl ⟨es,.inl e4,fzKK g⟩
  .rw[n3.2]at e0;cases e0
 |obj _=>exact e.elim
 |new _=>exact e.elim
 |newT _=>exact e.elim
theorem DenKV.len{K:Kd}{H:Hp}:∀{kvs:List (PyData×PyData)}{es:List (Int×V×V)},DenKV K H kvs es->kvs.length=es.length
 |[],_,g=>by simp only[DenKV]at g;subst g;rfl
 |(k,d)::r,_,g=>by
  simp only[DenKV]at g;obtain⟨u,v,vs,rfl,_,_,g⟩:=g;simp[DenKV.len g]
section
variable {X:Cx}{pins:List (Addr×Obj)}{σ:St}{H:Hp}{s:Shared}
abbrev PxV(K:Kd)(H:Hp):List (PyData×PyData)->List (PyData×Addr×Value)->Prop:=Paired fun p q=>p.1=q.1/\Den K H p.1 (.ref q.2.1)/\∃v,Den K H p.2 v/\RelV v q.2.2
theorem PxV.keys{H:Hp}{xs:List (PyData×Addr×Value)}(p:PxV K H kvs xs):xs.map (·.1)=kvs.map (·.1):=by
 induction p with
 |nil=>rfl
 |cons h t ih=>rw[List.map_cons,List.map_cons,ih,h.1]
theorem oz{k:PyData}{u:V}(hk:kyD k=true)(h:Den K H k u):∃b,u = .ref b:=by
 obtain⟨ds,rfl,_⟩:=gC hk;simp only[Den]at h;obtain⟨a,xs,e,_⟩:=h;exact⟨a,e⟩
theorem ul{k:PyData}(hk:kyD k=true):k.hasDict=false:=by
 obtain⟨ds,rfl,_,hl,_⟩:=gC hk;exact PyData.hasDict_of_canLay _ hl
theorem Inv.ky(I:Inv X pins σ H s){k:PyData}{b:Addr}(hk:kyD k=true)(h:Den X.kd H k (.ref b)):(jb X.prog X.w).is s.heap k b:=⟨h.reads I (ul hk) (show RelV (.ref b) (.ref b)from rfl),hk⟩
abbrev ExV(w:World):List (Int×V×V)->List (PyData×Addr×Value)->Prop:=Paired fun e q=>e.1=dH w q.1/\e.2.1 = .ref q.2.1/\RelV e.2.2 q.2.2
theorem Inv.dcE(I:Inv X pins σ H s){es:List (Int×V×V)}(rd:Rd H a (dX a es))(g:DenKV X.kd H kvs es)(nd:(kvs.map (·.1)).Nodup)(hk:kyA kvs=true):(a==sysModules)=false/\es.length≤sizeLine/\∃xs,s.heap.DictOfH (jb X.prog X.w) a xs/\PxV X.kd H kvs xs/\ExV X.w es xs:=by
 obtain⟨⟨hs,hz,o,ents,ep,h1,h2,h3,h4⟩,_⟩:=(show ObjOk X.prog X.w H s.heap a (dX a es)from rd.ok I.hok);have key:∀{kvs:List (PyData×PyData)}{es:List (Int×V×V)}{ents:List DictEntry},kyA kvs=true->DenKV X.kd H kvs es->Paired (fun(e:Int×V×V) (d:DictEntry)=>d.hash=e.1/\RelV e.2.1 d.key/\RelV e.2.2 d.val) es ents->∃xs,ents=xs.map (entryOfKey (jb X.prog X.w))/\PxV X.kd H kvs xs/\ExV X.w es xs:=by
  intro kvs
  induction kvs with
  |nil =>
   intro es ents _ g p;simp only[DenKV]at g;subst g;cases p;exact⟨[],rfl,.nil,.nil⟩
  | cons x r ih =>
   intro es ents hk g p;obtain⟨k,d⟩:=x;rw[kyA,List.all_cons,Bool.and_eq_true]at hk;simp only[DenKV]at g;obtain⟨u,v,vs,rfl,g0,g1,g2⟩:=g
   cases p with
   |cons p1 p2 =>
    rename_i en ents';obtain⟨xs,e1,e2,e3⟩:=ih hk.2 g2 p2;obtain⟨b,rfl⟩:=oz hk.1 g0;obtain⟨p3,p4,p5⟩:=p1;obtain⟨eh,ek,ev⟩:=en
    cases (show ek=Value.ref b from p4)
    refine⟨(k,b,ev)::xs,?_,.cons ⟨rfl,g0,v,g1,p5⟩ e2,.cons ⟨rfl,rfl,p5⟩ e3⟩;rw[List.map_cons,<-e1]
    congr 1
    show DictEntry.mk eh (.ref b) ev=⟨dH X.w k,.ref b,ev⟩;rw[show eh=dH X.w k from p3]
 obtain⟨xs,e1,e2,e3⟩:=key hk g h4;refine⟨hs,hz,xs,⟨o,ents,ep,h1,h2,h3,e1,fun x hx=>?_,by rw[e2.keys];exact nd⟩,e2,e3⟩;have all:∀{kvs:List (PyData×PyData)}{xs:List (PyData×Addr×Value)},kyA kvs=true->PxV X.kd H kvs xs->∀x∈xs,(jb X.prog X.w).is s.heap x.1 x.2.1:=by
  intro kvs xs hk p
  induction p with
  |nil=>intro x hx;cases hx
  | @cons q x0 qs xs0 h t ih =>
   rw[kyA,List.all_cons,Bool.and_eq_true]at hk;intro x hx;obtain rfl|hx:=List.mem_cons.mp hx
   .rw[<-h.1];exact I.ky hk.1 h.2.1
   .exact ih hk.2 x hx
 exact all hk e2 x hx
theorem Inv.dc0(I:Inv X pins σ H s)(rd:Rd H a (.dK [])):(a==sysModules)=false/\s.heap.DictOfH (jb X.prog X.w) a []:=by
 obtain⟨_,hs,vs,kv,dd⟩:=oT I.hok rd;cases kv;obtain⟨o,ents,ep,h1,h2,h3,h4⟩:=dd;refine⟨hs,o,ents,ep,h1,h2,h3,?_,⟨(fun x hx=>absurd hx (by simp)),List.nodup_nil⟩⟩;have e0:ents.toList=[]:=by
  obtain⟨_,hp,_⟩:=h4;exact List.eq_nil_of_length_eq_zero (by have:=hp.length;simpa using this)
 rw[e0];rfl
theorem D5(g:DenKK K H kvs es)(hk:kyA kvs=true):kvs=[]/\es=[]:=by
 cases kvs with
 |nil=>simp only[DenKK]at g;exact⟨rfl,g⟩
 |cons x r =>
  obtain⟨k,d⟩:=x;simp only[DenKK]at g;obtain⟨kk,v,vs,_,⟨ek,_⟩,_⟩:=g;rw[kyA,List.all_cons,Bool.and_eq_true]at hk;have hk1:kyD k=true:=hk.1;rw[ek]at hk1
  cases kk<;>cases hk1
theorem Inv.dcX(I:Inv X pins σ H s)(h:IsDc X.kd H a kvs)(hk:kyA kvs=true):(a==sysModules)=false/\∃xs,s.heap.DictOfH (jb X.prog X.w) a xs/\PxV X.kd H kvs xs:=by
 rcases h with⟨es,rd,g⟩|⟨es,rd,_,nd,g⟩
 .obtain⟨rfl,rfl⟩:=D5 g hk;obtain⟨hs,dd⟩:=I.dc0 rd;exact⟨hs,[],dd,.nil⟩
 .obtain⟨hs,_,xs,dd,p,_⟩:=I.dcE rd g nd hk;exact⟨hs,xs,dd,p⟩
theorem PxV.val{xs:List (PyData×Addr×Value)}{k:PyData}(hk:kyA kvs=true)(hkk:kyD k=true)(p:PxV K H kvs xs) :
  (cc k kvs=none/\atKey xs k=none)\/∃d v q,cc k kvs=some d/\atKey xs k=some q/\Den K H d v/\RelV v q.2:=by
 induction p with
 |nil=>exact(.inl ⟨rfl,rfl⟩)
 | @cons x q xs0 qs h t ih =>
  rw[kyA,List.all_cons,Bool.and_eq_true]at hk;obtain⟨k',d⟩:=x;obtain⟨h1,h2,v,h3,h4⟩:=h;have h1':k'=q.1:=h1;have he:PyData.eqv k' k=decide (k'=k):=nh _ _ (km hk.1) (km hkk);unfold cc
  by_cases e:k'=k
  .have b:atKey (q::qs) k=some q.2:=by simp[atKey,List.find?_cons,<-h1',e]
   rw[he,decide_eq_true e,if_pos rfl];exact .inr ⟨d,v,q.2,rfl,b,h3,h4⟩
  .have b:atKey (q::qs) k=atKey qs k:=by simp[atKey,List.find?_cons,<-h1',e]
   rw[he,decide_eq_false e,if_neg (by decide),b];exact ih hk.2
theorem DenKK.val(g:DenKK K H kvs es) :
  (cc (keyD kk) kvs=none/\valV es kk=none)\/∃d v,cc (keyD kk) kvs=some d/\valV es kk=some v/\Den K H d v:=by
 induction kvs generalizing es with
 |nil=>simp only[DenKK]at g;subst g;exact .inl ⟨rfl,rfl⟩
 |cons x r ih =>
  obtain⟨k,d⟩:=x;simp only[DenKK]at g;obtain⟨k0,v,vs,rfl,⟨rfl,_⟩,g1,g2⟩:=g;unfold cc;rw[vK]
  by_cases e:k0=kk
  .rw[decide_eq_true e,if_pos rfl];exact .inr ⟨d,v,rfl,jv (p:=(k0,v)) e,g1⟩
  .rw[decide_eq_false e,if_neg (by decide),jn (p:=(k0,v)) e];exact ih g2
theorem DGet.kr{H:Hp}{kvs:List (Key×V)}{k:Key}(e:Rd H a (.dK kvs)):DGet H a (kV k) (valV kvs k):=.inl ⟨kvs,k,e,rfl,rfl⟩
theorem iK{k:PyData}(h:oneK kvs k=true):(isKd kvs=true/\kdD k=true)\/(kyA kvs=true/\kyD k=true):=by
 unfold oneK at h;rw[Bool.or_eq_true,Bool.and_eq_true,Bool.and_eq_true]at h;exact h
theorem Inv.dcT(I:Inv X pins σ H s)(h:IsDc X.kd H a kvs):s.TypeIs (.ref a) "dict" /\ ∀b,Value.ref a = .ref b->∃ob,s.heap.get? b=some ob/\ob.dict=none:=by
 rcases h with⟨es,rd,g⟩|⟨es,rd,_,nd,g⟩
 .obtain⟨_,hs,vs,kv,o,_,_,h1,h2,_⟩:=oT I.hok rd;exact⟨⟨o,h1,h2.1⟩,fun b e=>by cases e;exact⟨o,h1,h2.2.1⟩⟩
 .obtain⟨⟨hs,hz,o,ents,ep,h1,h2,h3,h4⟩,_⟩:=(show ObjOk X.prog X.w H s.heap a (dX a es)from rd.ok I.hok);exact⟨⟨o,h1,h2.1⟩,fun b e=>by cases e;exact⟨o,h1,h2.2.1⟩⟩
theorem qi(h:Den K H (keyD kk) y):y=kV kk:=by
 cases kk with
 |inl i=>exact aL h
 |inr x=>exact bq h
section
variable {a:Addr}{kvs:List (PyData×PyData)}{k:PyData}{y z:V}{u dflt:Value}{A:Around}{E:Value->Shared->Prop}
theorem Ce(hu:A.units+64<cLine)(I:Inv X pins σ H s)(h:IsDc X.kd H a kvs)(ok:oneK kvs k=true)(hk:Den X.kd H k y)(ry:RelV y u)(rz:RelV z dflt)
  (fin:∀v w' s',Inv X pins σ H s'->RelV v w'->((∃d,cc k kvs=some d/\Den X.kd H d v)\/(cc k kvs=none/\v=z))->Q w' s'):wpAny (model X.prog X.w) A (call (.builtin "dict.get") [.ref a,u,dflt]) Q E s:=by
 have hT:=(I.dcT h).1;rcases iK ok with⟨o1,o2⟩|⟨o1,o2⟩
 .obtain⟨kk,rfl⟩:=jA o2;have ey:=qi hk;subst ey;rcases h with⟨es,rd,g⟩|⟨es,rd,kd,nd,g⟩
  .obtain⟨z0,hd,vs,rel,dd⟩:=oT I.hok rd;refine call_meetsIn PySem.F.slot_dict_get hT PySem.F.entry_dict_get (PySem.F.args_dict_get_3 _ _ _) (meets_dict_get_default (cf X.prog X.w) a (sw ry) hd dflt) ⟨_,dd.mapOf,?_⟩;have rv:=rel.val kk;rcases g.val (kk:=kk)with⟨e1,e2⟩|⟨d,v,e1,e2,e3⟩
   .rw[e2]at rv;have e4:valueAt vs kk=none:=RelO.none_of rv;show Q ((valueAt vs kk).getD dflt) _;rw[e4];exact fin z dflt _ (I.tok _) rz (.inr ⟨e1,rfl⟩)
   .rw[e2]at rv;obtain⟨w',e4,e5⟩:=RelO.some_of rv;show Q ((valueAt vs kk).getD dflt) _;rw[e4];exact fin v w' _ (I.tok _) e5 (.inl ⟨d,e1,e3⟩)
  .rw[o1]at kd;cases kd
 .obtain⟨hs,xs,dd,p⟩:=I.dcX h o1;obtain⟨b,rfl⟩:=oz o2 hk
  cases (show u=Value.ref b from ry)
  refine call_meetsIn PySem.F.slot_dict_get hT PySem.F.entry_dict_get (PySem.F.args_dict_get_3 _ _ _) (meetsH_dict_get_default (jb X.prog X.w) a b hs dflt) ⟨(by show A.units+1+20<cLine;omega),k,xs,I.ky o2 hk,dd,?_⟩;rcases p.val o1 o2 with⟨e1,e2⟩|⟨d,v,q,e1,e2,e3,e4⟩
  .rw[e2];exact fin z dflt _ (I.tok _) rz (.inr ⟨e1,rfl⟩)
  .rw[e2];exact fin v q.2 _ (I.tok _) e4 (.inl ⟨d,e1,e3⟩)
theorem JI(hu:A.units+64<cLine)(I:Inv X pins σ H s)(h:IsDc X.kd H a kvs)(ok:oneK kvs k=true)(hk:Den X.kd H k y)(ry:RelV y u)(neg:Bool)
  (fin:∀s',Inv X pins σ H s'->Q (.bool (if neg=true then !(cc k kvs).isSome else(cc k kvs).isSome)) s'):wpAny (model X.prog X.w) A (compareOp (if neg=true then .NotIn else .In) u (.ref a)) Q E s:=by
 rcases iK ok with⟨o1,o2⟩|⟨o1,o2⟩
 .obtain⟨kk,rfl⟩:=jA o2;have ey:=qi hk;subst ey;rcases h with⟨es,rd,g⟩|⟨es,rd,kd,nd,g⟩
  .have e:(cc (keyD kk) kvs).isSome=(valV es kk).isSome:=by
    rcases g.val (kk:=kk)with⟨e1,e2⟩|⟨d,v,e1,e2,e3⟩
    .rw[e1,e2];rfl
    .rw[e1,e2];rfl
   cases neg with
   |false=>exact d_in (by omega) I (DGet.kr rd) ry fun s' I'=>by rw[<-e];exact fin s' I'
   |true=>exact Bf (by omega) I (DGet.kr rd) ry fun s' I'=>by rw[<-e];exact fin s' I'
  .rw[o1]at kd;cases kd
 .obtain⟨hs,xs,dd,p⟩:=I.dcX h o1;obtain⟨b,rfl⟩:=oz o2 hk
  cases (show u=Value.ref b from ry)
  have e:(cc k kvs).isSome=(atKey xs k).isSome:=by
   rcases p.val o1 o2 with⟨e1,e2⟩|⟨d,v,q,e1,e2,e3,e4⟩
   .rw[e1,e2];rfl
   .rw[e1,e2];rfl
  cases neg with
  |false=>exact wpAny_in_heap (knd:=jb X.prog X.w) (by show A.units+1+20<cLine;omega) (I.ky o2 hk) hs dd (by rw[<-e];exact fin _ (I.tok _))
  |true=>exact PyProof.Rows.wpAny_notIn_heap (knd:=jb X.prog X.w) (by show A.units+1+20<cLine;omega) (I.ky o2 hk) hs dd (by rw[<-e];exact fin _ (I.tok _))
theorem sN{d:PyData}(hu:A.units+64<cLine)(I:Inv X pins σ H s)(h:IsDc X.kd H a kvs)(ok:oneK kvs k=true)(hk:Den X.kd H k y)(ry:RelV y u)(hl:cc k kvs=some d)
  (fin:∀v w' s',Inv X pins σ H s'->RelV v w'->Den X.kd H d v->Q w' s'):wpAny (model X.prog X.w) A (getItem (.ref a) u) Q E s:=by
 rcases iK ok with⟨o1,o2⟩|⟨o1,o2⟩
 .obtain⟨kk,rfl⟩:=jA o2;have ey:=qi hk;subst ey;rcases h with⟨es,rd,g⟩|⟨es,rd,kd,nd,g⟩
  .rcases g.val (kk:=kk)with⟨e1,e2⟩|⟨d',v,e1,e2,e3⟩
   .rw[hl]at e1;cases e1
   .rw[hl]at e1;cases e1;exact vp (by omega) I (by rw[<-e2];exact DGet.kr rd) ry fun w' s' I' rw'=>fin v w' s' I' rw' e3
  .rw[o1]at kd;cases kd
 .obtain⟨hs,xs,dd,p⟩:=I.dcX h o1;obtain⟨b,rfl⟩:=oz o2 hk
  cases (show u=Value.ref b from ry)
  rcases p.val o1 o2 with⟨e1,e2⟩|⟨d',v,q,e1,e2,e3,e4⟩
  .rw[hl]at e1;cases e1
  .rw[hl]at e1;cases e1;exact wpAny_getItem_heap (knd:=jb X.prog X.w) (by show A.units+1+20<cLine;omega) (I.ky o2 hk) dd e2 (fin v q.2 _ (I.tok _) e4 e3)
end
end
section
variable {X:Cx}{a:Expr}{wa:WE}{pos:Pos}
def Bo:WE:=fun m K=>K (.newT (.dict [])) m
theorem Dj:ME X (.Dict [] [] pos) Bo:=pe_dnewK.wk fun σ H Q ⟨α,m,Kc,Rl,hw,fin⟩=>by
 intro p hp;refine fin _ m _ _ hw rfl (Rl.lay hp) ⟨[([],p)],p,rfl,rfl,by simp,fun b hb=>by simp at hb;subst hb;exact hp,⟨⟨_,.ref p,rfl,?_,p,rfl,rfl⟩,fun b hb=>by simp at hb;subst hb;exact⟨_,aC,rfl⟩⟩⟩ (cW hp);simp only[TAt];refine .inr (.inr (.inl ⟨rfl,rfl,p,[],rfl,rfl,aC,?_⟩));simp only[TAtK]
theorem jq:EE X (.Dict [] [] pos) Bo:=⟨Dj⟩
end
section
variable {m:MSt}{K:R->MSt->Prop}{w:WE}{P:PyData->Prop}
theorem qv(h:K (.newT (.dict [])) m):Bo m K:=h
end
section
variable {X:Cx}{o e e2:Expr}{es:List Expr}{wo:WE}{ws:WA}{apos cpos:Pos}
def Gq(K:Kd)(to:TE)(t:TA):TE:=fun σ H Q=>to σ H fun x H1=>∃a kvs0,x = .ref a/\IsDc K H1 a kvs0/\t σ H1 fun xs H2=>∃kvs k y z,xs=[y,z]/\IsDc K H2 a kvs/\oneK kvs k=true/\Den K H2 k y/\∀v,((∃d,cc k kvs=some d/\Den K H2 d v)\/(cc k kvs=none/\v=z))->Q v H2
theorem yu{to:TE}{t:TA}(hu:X.A.units+64<cLine)(ho:PE X o to)(ha:PA X (e::es) t)
  (hbase:attributeBase o "get" X.env (eval o X.env)=eval o X.env:=by rfl)
  (hfew:((backTo cpos (starEach (e::es) X.env)).all (fun x=>!x.1)&&(backToKw cpos (keywordEach [] X.env)).all (fun x=>x.1.isSome)
   && decide ((e::es).length+([]:List Keyword).length+(if ([]:List Keyword).isEmpty then 0 else 1)<30))=true:=by rfl)
  (hline:(apos.endLine==cpos.line)=true:=by rfl) (hs:starEach (e::es) X.env=(false,eval e X.env)::starEach es X.env:=by rfl) (hplain:(backTo cpos (starEach es X.env)).any (·.1)=false:=by rfl) :
  PE X (.Call (.Attribute o "get" apos) (e::es) [] cpos) (Gq X.kd to t):=by
 intro pins s σ H Q I h;refine wpAny_Call_method_late hbase hfew hline rfl (thn (ho pins s σ H _ I h) fun v s1 ⟨x,H1,I1,r1,q1⟩=>?_);obtain⟨a,kvs0,rfl,dc0,q1⟩:=q1
 cases (show v=Value.ref a from r1)
 obtain⟨h1,h2⟩:=I1.dcT dc0;refine⟨"dict","dict.get",PySem.F.plainAttrs_dict,PySem.F.slot_dict_get,PySem.F.type_dict_get,h1,h2,?_⟩;have hA:=ha cpos pins s1 σ H1 _ I1 q1;rw[hs]at hA⊢;refine Calls.callWith_builtin (by show(false||(backTo cpos (starEach es X.env)).any (·.1))=false;rw[hplain]<;>rfl) (Calls.evalArgs_plain ?_);refine thn hA fun us s2 ⟨vs,H2,I2,r2,q2⟩=>?_;obtain⟨kvs,k,y,z,rfl,dc,ok,hk,fin⟩:=q2
 cases r2 with
 | cons ry r2 =>
  cases r2 with
  |cons rz r2 =>
   cases r2;exact Ce hu I2 dc ok hk ry rz fun v w' s' I' rv hv=>⟨v,H2,I',rv,fin v hv⟩
def wg(wo:WE)(ws:WA):WE:=fun m K=>wo m fun ro m1=>∃kvs0,dcM m1 kvs0 ro/\(isKd kvs0=true\/kyA kvs0=true)/\ws m1 fun rs m2=>∃kvs k z,rs=[.imm k,.imm z]/\dcM m2 kvs ro/\oneK kvs k=true/\K (.imm ((cc k kvs).getD z)) m2
theorem zy(hu:X.A.units+64<cLine)(ho:ME X o wo)(ha:MA X (e::es) ws)
  (hbase:attributeBase o "get" X.env (eval o X.env)=eval o X.env:=by rfl)
  (hfew:((backTo cpos (starEach (e::es) X.env)).all (fun x=>!x.1)&&(backToKw cpos (keywordEach [] X.env)).all (fun x=>x.1.isSome)
   && decide ((e::es).length+([]:List Keyword).length+(if ([]:List Keyword).isEmpty then 0 else 1)<30))=true:=by rfl)
  (hline:(apos.endLine==cpos.line)=true:=by rfl) (hs:starEach (e::es) X.env=(false,eval e X.env)::starEach es X.env:=by first|exact aV rfl|rfl) (hplain:(backTo cpos (starEach es X.env)).any (·.1)=false:=by rfl) :
  ME X (.Call (.Attribute o "get" apos) (e::es) [] cpos) (wg wo ws):=(yu hu ho ha hbase hfew hline hs hplain).wk fun σ H Q ⟨α,m,Kc,Rl,hw,fin⟩=>by
 refine⟨α,m,_,Rl,hw,fun r m1 v H1 k n1 Rl1 rr F1=>?_⟩;obtain⟨kvs0,e0,k0,k⟩:=k;obtain⟨a,rfl,dc0⟩:=RelR.dc Rl1 rr e0 k0;refine⟨a,kvs0,rfl,dc0,α,m1,_,Rl1,k,fun rs m2 vs H2 k2 n2 Rl2 rr2 F2=>?_⟩;obtain⟨kvs,kk,z,rfl,e1,ok,k2⟩:=k2;have hk:isKd kvs=true\/kyA kvs=true:=by
  rcases iK ok with z|z
  .exact .inl z.1
  .exact .inr z.1
 obtain⟨a',ea,dc⟩:=RelR.dc Rl2 (rr.keep Rl Rl1 F2) e1 hk;cases ea
 cases rr2 with
 | cons hy rr2 =>
  cases rr2 with
  |cons hz rr2 =>
   cases rr2;refine⟨kvs,kk,_,_,rfl,dc,ok,hy,fun v hv=>fin _ m2 v H2 k2 (n2.trans n1) Rl2 ?_ (F1.trans F2)⟩;rcases hv with⟨d,ed,hd⟩|⟨ed,rfl⟩
   .rw[ed];exact hd
   .rw[ed];exact hz
def oInD(neg:Bool):WO:=fun r1 r2 m K=>cX (fun k=>∃kvs,dcM m kvs r2/\oneK kvs k=true/\K (.imm (.bool (if neg=true then !(cc k kvs).isSome else(cc k kvs).isSome)))) r1
theorem Df(hu:X.A.units+64<cLine)(neg:Bool):OpR X (compareOp (if neg=true then .NotIn else .In)) (rM X.kx (oInD neg)):=by
 rintro pins s σ' H x y v u Q I rx ry ⟨α,m,σ,H0,H1,r1,r2,Kc,Rl,h1,h2,ho,fin⟩;obtain⟨k,rfl,hk,kvs,e1,ok,ho⟩:=dU h1 ho;obtain⟨a,rfl,dc⟩:=RelR.dc Rl h2 e1 (by
  rcases iK ok with z|z
  .exact .inl z.1
  .exact .inr z.1)
 cases (show u=Value.ref a from ry)
 exact JI hu I dc ok hk rx neg fun s' I'=>⟨.bl _,H,I',rfl,fin _ _ H ho Rl (lQ _) (Frm.refl _ _)⟩
theorem tw(hu:X.A.units+64<cLine):OpR X (compareOp .NotIn) (rM X.kx (oInD true)):=Df hu true
theorem fv(hu:X.A.units+64<cLine)(ho:EE X o wo)(ha:EA X (e::es) ws)
  (hbase:attributeBase o "get" X.env (eval o X.env)=eval o X.env:=by rfl)
  (hfew:((backTo cpos (starEach (e::es) X.env)).all (fun x=>!x.1)&&(backToKw cpos (keywordEach [] X.env)).all (fun x=>x.1.isSome)
   && decide ((e::es).length+([]:List Keyword).length+(if ([]:List Keyword).isEmpty then 0 else 1)<30))=true:=by rfl)
  (hline:(apos.endLine==cpos.line)=true:=by rfl) (hs:starEach (e::es) X.env=(false,eval e X.env)::starEach es X.env:=by first|exact aV rfl|rfl) (hplain:(backTo cpos (starEach es X.env)).any (·.1)=false:=by rfl) :
  EE X (.Call (.Attribute o "get" apos) (e::es) [] cpos) (wg wo ws):=⟨zy hu ho.h ha.h hbase hfew hline hs hplain⟩
end
section
variable {X:Cx}{iter:Expr}{wo:WE}{w:WS}{body:List Stmt}{pos np:Pos}{x:Str}{i0:Nat}
theorem jS{ws:WA}{m:MSt}{Q:R->MSt->Prop}(h:wo m fun ro m1=>∃kvs0,dcM m1 kvs0 ro/\(isKd kvs0=true\/kyA kvs0=true)/\ws m1 fun rs m2=>∃kvs k z,rs=[.imm k,.imm z]/\dcM m2 kvs ro/\oneK kvs k=true/\Q (.imm ((cc k kvs).getD z)) m2):wg wo ws m Q:=h
end
end L2
namespace L2
open PySem PySem.Spec PyProof.Rows
open Sem (wp)
def JE(K:Kd)(to ti:TE):TE:=fun σ H Q=>to σ H fun x H1=>ti σ H1 fun y H2=>∃a kvs k d,x = .ref a/\IsDc K H2 a kvs/\oneK kvs k=true/\Den K H2 k y/\cc k kvs=some d/\∀v,Den K H2 d v->Q v H2
section
variable {X:Cx}{o i:Expr}{wo wi:WE}{pos:Pos}{to ti:TE}
theorem Dn(hu:X.A.units+64<cLine)(ho:PE X o to)(hi:PE X i ti)(hs:NoSl i):PE X (.Subscript o i pos) (JE X.kd to ti):=by
 intro pins s σ H Q I h;refine Dq PySem.F.slot_dict_getitem.lookup hs (thn (ho pins s σ H _ I h) fun u s1 ⟨x,H1,I1,rx,q1⟩=>thn (hi pins s1 σ H1 _ I1 q1) fun iv s2 ⟨y,H2,I2,ry,a,kvs,k,d,ex,dc,ok,hk,hl,q2⟩=>?_);subst ex;obtain rfl:u=Value.ref a:=rx;exact⟨(I2.dcT dc).1,sN hu I2 dc ok hk ry hl fun v w' s' I' rv hd=>⟨v,H2,I',rv,q2 v hd⟩⟩
def yl(wo wi:WE):WE:=fun m K=>wo m fun ro m1=>wi m1 fun ri m2=>cX (fun k=>∃kvs d,dcM m2 kvs ro/\oneK kvs k=true/\cc k kvs=some d/\K (.imm d) m2) ri
theorem Cy(hu:X.A.units+64<cLine)(ho:ME X o wo)(hi:ME X i wi)(hs:NoSl i:=by intro _ _;rfl):ME X (.Subscript o i pos) (yl wo wi):=(Dn hu ho hi hs).wk fun σ H Q ⟨α,m,Kc,Rl,hw,fin⟩=>by
 refine⟨α,m,_,Rl,hw,fun ro m1 v1 H1 k1 n1 Rl1 rr1 F1=>⟨α,m1,_,Rl1,k1,fun ri m2 v2 H2 k2 n2 Rl2 rr2 F2=>?_⟩⟩;obtain⟨k,rfl,hk,kvs,d,e1,ok,el,k2⟩:=dU rr2 k2;obtain⟨a,rfl,dc⟩:=RelR.dc Rl2 (rr1.keep Rl Rl1 F2) e1 (by
  rcases iK ok with z|z
  .exact .inl z.1
  .exact .inr z.1)
 exact⟨a,kvs,k,d,rfl,dc,ok,hk,el,fun v hd=>fin _ m2 v H2 k2 (n2.trans n1) Rl2 hd (F1.trans F2)⟩
theorem lb(hu:X.A.units+64<cLine)(ho:EE X o wo)(hi:EE X i wi)(hs:NoSl i:=by intro _ _;rfl):EE X (.Subscript o i pos) (yl wo wi):=⟨Cy hu ho.h hi.h hs⟩
end
theorem DY{m:MSt}{Q:R->MSt->Prop}{wo wi:WE}(h:wo m fun ro m1=>wi m1 fun ri m2=>cX (fun k=>∃kvs d,dcM m2 kvs ro/\oneK kvs k=true/\cc k kvs=some d/\Q (.imm d) m2) ri):yl wo wi m Q:=h
end L2
set_option maxHeartbeats 1100000
namespace L2
open PySem PySem.Spec PyProof.Rows
open Sem (wp)
variable{Q:Value->Shared->Prop}{H:Hp}{a it:Addr}{o:Obj}{es:List (V×V)}{P:List (PyData×PyData)->Prop}{w:World}{ep:Nat}{K:Kd}{ents:Array DictEntry}{kvs:List (PyData×PyData)}{Ks:Src->MSt->Prop}
structure EntAt(h:Heap)(d:Addr)(es:Array DictEntry)(ep:Nat):Prop where
 ex:∃o,h.get? d=some o/\o.ExactDict/\o.data = .dict es ep
section
variable {prog:Program}{w:World}{A:Around}{E:Value->Shared->Prop}{s:Shared}{it d:Addr}{es:Array DictEntry}{i ep:Nat}{ok ov:Value}
theorem zu{Q:String->Shared->Prop}(hT:s.TypeIs (.ref it) "dict_itemiterator")(h:Q "dict_itemiterator" s):wpAny (model prog w) A (typeNameOfWhole (.ref it)) Q E s:=wpAny_typeNameOfWhole_itemiter hT h
theorem sK{j n:Nat}{k v:Value}(hit:IsItemIter s.heap it d j n ep ok ov)
  (hQ:∀h',IsItemIterOut h' it d j n ep k v s.heap.objs.size->h'.get? s.heap.objs.size=some {cls:=.type "tuple",data:=.seq #[k,v]}->h'.objs.size=s.heap.objs.size+1 ->
   (∀b o,b≠it->s.heap.get? b=some o->h'.get? b=some o)->Q (.ref s.heap.objs.size) {s with heap:=h' }):wpAny (model prog w) A (Builtin.Dict_items.pairFromOwner (.ref it) 6 k v) Q E s:=by
 have lt:it<s.heap.objs.size:=Heap.lt_size hit;rcases s with⟨hp,g,dr,tk,os⟩;refine wpAny_bind (m:=newTuple [k,v]) (wpAny_newTuple ?_);have z0:(hp.push {cls:=.type "tuple",data:=.seq #[k,v]}).objs.size=hp.objs.size+1:=Heap.size_push ..;have t0:(hp.push {cls:=.type "tuple",data:=.seq #[k,v]}).get? hp.objs.size=some {cls:=.type "tuple",data:=.seq #[k,v]}:=Heap.get?_push_size _ rfl;have k0:∀b o,hp.get? b=some o->(hp.push {cls:=.type "tuple",data:=.seq #[k,v]}).get? b=some o:=fun b o q=>Heap.get?_push_of_some _ q;have i0:IsItemIter (hp.push {cls:=.type "tuple",data:=.seq #[k,v]}) it d j n ep ok ov:=k0 _ _ hit;show wpAny _ _ (Builtin.Dict_items.ownedTupleIsFree (.ref it) >>= _) _ _ ⟨hp.push {cls:=.type "tuple",data:=.seq #[k,v]},g,dr,tk,os⟩;generalize hp.push {cls:=.type "tuple",data:=.seq #[k,v]}=q0 at z0 t0 k0 i0;refine wpAny_bind (m:=Builtin.Dict_items.ownedTupleIsFree (.ref it)) ?_;refine wpAny_bind (m:=field (.ref it) 0) (wpAny_field i0 rfl (x:=.none) rfl (wpAny_pure ?_));refine wpAny_bind (m:=field (.ref it) 6) (wpAny_field i0 rfl (x:=ok) rfl (wpAny_bind (m:=field (.ref it) 7) (wpAny_field i0 rfl (x:=ov) rfl ?_)));refine wpAny_bind (m:=setField (.ref it) 6 k) (wpAny_setField_rec i0 (by simp) fun q1 i1 s1=>?_);have i1':IsItemIter q1 it d j n ep k ov:=i1;refine wpAny_bind (m:=setField (.ref it) 7 v) (wpAny_setField_rec i1' (by simp) fun q2 i2 s2=>?_);have i2':IsItemIter q2 it d j n ep k v:=i2;refine wpAny_bind (m:=setField (.ref it) 0 (rawInt hp.objs.size)) (wpAny_setField_rec i2' (by simp) fun q3 i3 s3=>?_);have i3':IsItemIterOut q3 it d j n ep k v hp.objs.size:=i3;refine wpAny_bind (m:=setField (.ref it) 1 (.bool false)) (wpAny_setField_rec i3' (by simp) fun q4 i4 s4=>?_);have i4':IsItemIterOut q4 it d j n ep k v hp.objs.size:=i4;have up:∀b o,b≠it->q0.get? b=some o->q4.get? b=some o:=fun b o nb q=>s4.extBut b o nb (s3.extBut b o nb (s2.extBut b o nb (s1.extBut b o nb q)));have zz:q4.objs.size=q0.objs.size:=by rw[s4.1,s3.1,s2.1,s1.1]
 exact wpAny_bind (m:=letGo _ _) (wpAny_letGo (wpAny_pure (hQ q4 i4' (up _ _ (Nat.ne_of_gt lt) t0) (zz.trans z0) fun b o nb q=>up b o nb (k0 b o q))))
theorem vv{Q:Option Value->Shared->Prop}(hit:IsItemIter s.heap it d i es.size ep ok ov)(he:EntAt s.heap d es ep)(hi:i<es.size)
  (hQ:∀h',IsItemIterOut h' it d (i+1) es.size ep es[i].key es[i].val s.heap.objs.size->h'.get? s.heap.objs.size=some {cls:=.type "tuple",data:=.seq #[es[i].key,es[i].val]}->h'.objs.size=s.heap.objs.size+1 ->
   (∀b o,b≠it->s.heap.get? b=some o->h'.get? b=some o)->Q (some (.ref s.heap.objs.size)) {s with heap:=h' }):wpAny (model prog w) A (pyNext (.ref it)) Q E s:=by
 obtain⟨od,hod,hcd,hdd⟩:=he.ex;have hT:s.TypeIs (.ref it) "dict_itemiterator" :=(⟨_,hit,rfl⟩);have own:Builtin.Dict_items.ownsTuple "dict_itemiterator" = true:=by decide
 unfold pyNext;refine wpAny_bind (wpAny_attempt (wpAny_callSpecial?_slot (name:=Str.ofString "__next__") hT F.slot_dict_itemiterator_next (wpAny_call_entry F.slot_dict_itemiterator_next hT F.entry_dict_itemiterator_next ?_ (F.args_dict_itemiterator_next_1 _))))
 wp_walk using zu hT,wpAny_fieldsOf hit rfl,wpAny_dictEntries hod hdd,wpAny_dictEpoch hod hdd,wpAny_isOneOf_itemiter hT
 have eg:(if (i:Int)<0 then none else es[((i:Nat):Int).toNat]?)=some es[i]:=by
  rw[if_neg (by omega),Int.toNat_natCast,Array.getElem?_eq_getElem hi]
 rw[eg];rcases s with⟨hp,g,dr,tk,os⟩;refine wpAny_bind ?_;refine wpAny_bind (zu hT (wpAny_pure ?_));refine wpAny_bind (m:=Builtin.Dict_items.isOneOf _ _) (wpAny_isOneOf_itemiter hT ?_);show wpAny _ _ (setField (.ref it) 3 (rawInt ((i:Int)+1)) >>= _) _ _ _;refine wpAny_bind (wpAny_setField_rec hit (by simp) fun h1 e1 s1=>?_);replace s1:Heap.SameBut it hp h1:=s1;have e1':IsItemIter h1 it d (i+1) es.size ep ok ov:=by
  have q:((i+1:Nat):Int)=(i:Int)+1:=rfl;unfold IsItemIter;rw[q];simpa[rawInt]using e1
 have T1:Shared.TypeIs ⟨h1,g,dr,tk,os⟩ (.ref it) "dict_itemiterator" :=(⟨_,e1',rfl⟩);refine wpAny_bind (wpAny_holding (wpAny_bind (wpAny_isOneOf_itemiter T1 (wpAny_bind (wpAny_isOneOf_itemiter T1 ?_)))));show wpAny _ _ (Builtin.Dict_items.pairFromOwner (.ref it) 6 es[i].key es[i].val) _ _ ⟨h1,g,dr,tk,os⟩;have z1:h1.objs.size=hp.objs.size:=s1.1;refine sK e1' fun h2 e2 t2 z2 k2=>?_;rw[z1]at e2 t2 z2⊢;exact wpAny_pure ⟨_,rfl,wpAny_pure (hQ h2 e2 t2 z2 fun b o nb q=>k2 b o nb (s1.extBut b o nb q))⟩
theorem vc{Q:Option Value->Shared->Prop}(hh:A.handled=none)(hit:IsItemIter s.heap it d i es.size ep ok ov)(he:EntAt s.heap d es ep)(hi:es.size≤i)
  (hQ:∀h',(∀b o,b≠it->s.heap.get? b=some o->h'.get? b=some o)->Q none {s with heap:=h' }):wpAny (model prog w) A (pyNext (.ref it)) Q E s:=by
 obtain⟨od,hod,hcd,hdd⟩:=he.ex;have hT:s.TypeIs (.ref it) "dict_itemiterator" :=(⟨_,hit,rfl⟩);have own:Builtin.Dict_items.ownsTuple "dict_itemiterator" = true:=by decide
 unfold pyNext;refine wpAny_bind (wpAny_attempt (wpAny_callSpecial?_slot (name:=Str.ofString "__next__") hT F.slot_dict_itemiterator_next (wpAny_call_entry F.slot_dict_itemiterator_next hT F.entry_dict_itemiterator_next ?_ (F.args_dict_itemiterator_next_1 _))))
 wp_walk using zu hT,wpAny_fieldsOf hit rfl,wpAny_dictEntries hod hdd,wpAny_dictEpoch hod hdd,wpAny_isOneOf_itemiter hT
 have eg:(if (i:Int)<0 then none else es[((i:Nat):Int).toNat]?)=none:=by
  rw[if_neg (by omega),Int.toNat_natCast,Array.getElem?_eq_none hi]
 rw[eg];refine wpAny_bind (wpAny_bind (zu hT (wpAny_pure ?_)));refine wpAny_bind (m:=setField (.ref it) 2 .none) (wpAny_setField_rec hit (by simp) fun h1 e1 s1=>?_);refine lA hh fun h2 e k2 ⟨oe,q1,q2⟩=>?_;exact wpAny_bind (wpAny_isInstance (T := "StopIteration") (b:=true) ⟨oe,q1,q2⟩ isSubtype_stop (wpAny_pure (hQ h2 fun b o nb q=>k2 b o (s1.extBut b o nb q))))
theorem EntAt.keep{h h':Heap}(x:EntAt h d es ep)(k:∀o,h.get? d=some o->h'.get? d=some o):EntAt h' d es ep:=let ⟨o,a,b,c⟩:=x.ex;⟨o,k o a,b,c⟩
theorem EntAt.ty(x:EntAt s.heap d es ep):s.TypeIs (.ref d) "dict" :=let ⟨o,a,b,_⟩:=x.ex;⟨o,a,b.1⟩
theorem tJ(hd:(d==sysModules)=false)(he:EntAt s.heap d es ep)(h:Q (.ref s.heap.objs.size) {s with heap:=s.heap.push {cls:=.type "dict_items",data:=.fields #[.ref d]} }):wpAny (model prog w) A (call (.builtin "dict.items") [.ref d]) Q E s:=by
 refine call_meetsIn (S:=fun _ R s=>EntAt s.heap d es ep/\R (.ok (.ret (.ref s.heap.objs.size))) {s with heap:=s.heap.push {cls:=.type "dict_items",data:=.fields #[.ref d]} }) PySem.F.slot_dict_items he.ty PySem.F.entry_dict_items (PySem.F.args_dict_items_1 _) (.of_wp fun A R s ⟨hm,h⟩=>?_) ⟨he,h⟩;unfold Builtin.«dict.items» Builtin.Dict.noArgs;refine wpAny_bind (wpAny_bind (wpAny_notOrdered_dict hm.ty ?_));refine wpAny_pure ?_;refine wpAny_bind (m:=Builtin.Dict.showsAll d) ?_;unfold Builtin.Dict.showsAll;rw[hd];exact wpAny_pure (wpAny_bind (wpAny_newObj_type (wpAny_pure ⟨_,rfl,h⟩)))
theorem tj{v:Addr}(hv:s.heap.get? v=some {cls:=.type "dict_items",data:=.fields #[.ref d]})(he:EntAt s.heap d es ep)
  (hQ:∀h',IsItemIter h' s.heap.objs.size d 0 es.size ep .none .none->(∀b o,s.heap.get? b=some o->h'.get? b=some o)->Q (.ref s.heap.objs.size) {s with heap:=h' }):wpAny (model prog w) A (pyIter (.ref v)) Q E s:=by
 obtain⟨od,hod,hcd,hdd⟩:=he.ex;have hT:s.TypeIs (.ref v) "dict_items" :=(⟨_,hv,rfl⟩);have own:Builtin.Dict_items.ownsTuple "dict_itemiterator" = true:=by decide
 refine wpAny_pyIter_slot hT PySem.F.slot_dict_items_iter (wpAny_call_entry PySem.F.slot_dict_items_iter hT PySem.F.entry_dict_items_iter ?_ (PySem.F.args_dict_items_iter_1 _));unfold Builtin.«dict_items.__iter__» Builtin.Dict_items.dictOf Builtin.Dict_items.newIterator;refine wpAny_bind (wpAny_pure (wpAny_bind (wpAny_bind (wpAny_field hv rfl (x:=.ref d) rfl (wpAny_pure (wpAny_bind (wpAny_bind (wpAny_dictEntries hod hdd (wpAny_bind (wpAny_dictEpoch hod hdd ?_))))))))));simp only[own,if_true];refine wpAny_newObj_type (wpAny_pure ⟨_,rfl,"dict_itemiterator",_,⟨_,Heap.get?_push_size _ rfl,rfl⟩,PySem.F.slot_dict_itemiterator_next.lookup,?_⟩) (by simp only[sizeOk,Builtin.Dict_items.ownedTupleFields,List.size_toArray,List.length_append,List.length_cons,List.length_nil,sizeLine_eq];omega);exact hQ _ (Heap.get?_push_size _ rfl) fun b o q=>Heap.get?_push_of_some _ q
structure tq(h:Heap)(it d:Addr)(i n ep:Nat):Prop where
 e:h.get? it=some {cls:=.type "dict_keyiterator",data:=.fields #[.ref d,.int i 0,.int n 0,.int ep 0]}
theorem uD(hd:(d==sysModules)=false)(he:EntAt s.heap d es ep)
  (hQ:∀h',tq h' s.heap.objs.size d 0 es.size ep->(∀b o,s.heap.get? b=some o->h'.get? b=some o)->Q (.ref s.heap.objs.size) {s with heap:=h' }):wpAny (model prog w) A (pyIter (.ref d)) Q E s:=by
 obtain⟨od,hod,hcd,hdd⟩:=he.ex;refine wpAny_pyIter_slot he.ty PySem.F.slot_dict_iter (wpAny_call_entry PySem.F.slot_dict_iter he.ty PySem.F.entry_dict_iter ?_ (PySem.F.args_dict_iter_1 _));unfold Builtin.«dict.__iter__» Builtin.Dict.dictSlotNone;refine wpAny_bind (wpAny_bind (wpAny_notOrdered_dict he.ty (wpAny_pure ?_)));refine wpAny_bind (m:=Builtin.Dict.showsAll d) ?_;unfold Builtin.Dict.showsAll;rw[hd];refine wpAny_pure (wpAny_bind (wpAny_dictEntries hod hdd (wpAny_bind (wpAny_dictEpoch hod hdd ?_))));refine wpAny_bind (wpAny_newObj_type (wpAny_pure ⟨_,rfl,"dict_keyiterator",_,⟨_,Heap.get?_push_size _ rfl,rfl⟩,PySem.F.slot_dict_keyiterator_next.lookup,?_⟩));exact hQ _ ⟨Heap.get?_push_size _ rfl⟩ fun b o q=>Heap.get?_push_of_some _ q
theorem zw{Q:String->Shared->Prop}(hT:s.TypeIs (.ref it) "dict_keyiterator")(h:Q "dict_keyiterator" s):wpAny (model prog w) A (typeNameOfWhole (.ref it)) Q E s:=wpAny_typeNameOfWhole_keyiter hT h
theorem yr{Q:Option Value->Shared->Prop}(hit:tq s.heap it d i es.size ep)(he:EntAt s.heap d es ep)(hi:i<es.size)
  (hQ:∀h',tq h' it d (i+1) es.size ep->(∀b o,b≠it->s.heap.get? b=some o->h'.get? b=some o)->Q (some es[i].key) {s with heap:=h' }):wpAny (model prog w) A (pyNext (.ref it)) Q E s:=by
 obtain⟨od,hod,hcd,hdd⟩:=he.ex;obtain⟨hit⟩:=hit;have hT:s.TypeIs (.ref it) "dict_keyiterator" :=(⟨_,hit,rfl⟩);have own:Builtin.Dict_items.ownsTuple "dict_keyiterator" = false:=by decide
 unfold pyNext;refine wpAny_bind (wpAny_attempt (wpAny_callSpecial?_slot (name:=Str.ofString "__next__") hT PySem.F.slot_dict_keyiterator_next (wpAny_call_entry PySem.F.slot_dict_keyiterator_next hT PySem.F.entry_dict_keyiterator_next ?_ (PySem.F.args_dict_keyiterator_next_1 _))))
 wp_walk using zw hT,wpAny_fieldsOf hit rfl,wpAny_dictEntries hod hdd,wpAny_dictEpoch hod hdd,wpAny_isOneOf_keyiter hT
 have eg:(if (i:Int)<0 then none else es[((i:Nat):Int).toNat]?)=some es[i]:=by
  rw[if_neg (by omega),Int.toNat_natCast,Array.getElem?_eq_getElem hi]
 rw[eg];rcases s with⟨hp,g,dr,tk,os⟩;refine wpAny_bind ?_;refine wpAny_bind (zw hT (wpAny_pure ?_));refine wpAny_bind (wpAny_isOneOf_keyiter hT ?_);show wpAny _ _ (setField (.ref it) 1 (rawInt ((i:Int)+1)) >>= _) _ _ _;refine wpAny_bind (wpAny_setField_rec hit (by simp) fun h1 e1 s1=>?_);replace s1:Heap.SameBut it hp h1:=s1;have e1':tq h1 it d (i+1) es.size ep:=by
  refine⟨?_⟩;have q:((i+1:Nat):Int)=(i:Int)+1:=rfl;rw[q];simpa[rawInt]using e1
 have T1:Shared.TypeIs ⟨h1,g,dr,tk,os⟩ (.ref it) "dict_keyiterator" :=(⟨_,e1'.e,rfl⟩);refine wpAny_bind (wpAny_holding (wpAny_bind (wpAny_isOneOf_keyiter T1 ?_)));exact wpAny_pure (wpAny_pure ⟨_,rfl,wpAny_pure (hQ h1 e1' fun b o nb q=>s1.extBut b o nb q)⟩)
theorem xR{Q:Option Value->Shared->Prop}(hh:A.handled=none)(hit:tq s.heap it d i es.size ep)(he:EntAt s.heap d es ep)(hi:es.size≤i)
  (hQ:∀h',(∀b o,b≠it->s.heap.get? b=some o->h'.get? b=some o)->Q none {s with heap:=h' }):wpAny (model prog w) A (pyNext (.ref it)) Q E s:=by
 obtain⟨od,hod,hcd,hdd⟩:=he.ex;obtain⟨hit⟩:=hit;have hT:s.TypeIs (.ref it) "dict_keyiterator" :=(⟨_,hit,rfl⟩);have own:Builtin.Dict_items.ownsTuple "dict_keyiterator" = false:=by decide
 unfold pyNext;refine wpAny_bind (wpAny_attempt (wpAny_callSpecial?_slot (name:=Str.ofString "__next__") hT PySem.F.slot_dict_keyiterator_next (wpAny_call_entry PySem.F.slot_dict_keyiterator_next hT PySem.F.entry_dict_keyiterator_next ?_ (PySem.F.args_dict_keyiterator_next_1 _))))
 wp_walk using zw hT,wpAny_fieldsOf hit rfl,wpAny_dictEntries hod hdd,wpAny_dictEpoch hod hdd,wpAny_isOneOf_keyiter hT
 have eg:(if (i:Int)<0 then none else es[((i:Nat):Int).toNat]?)=none:=by
  rw[if_neg (by omega),Int.toNat_natCast,Array.getElem?_eq_none hi]
 rw[eg];refine wpAny_bind (wpAny_bind (zw hT (wpAny_pure ?_)));refine wpAny_bind (m:=setField (.ref it) 0 .none) (wpAny_setField_rec hit (by simp) fun h1 e1 s1=>?_);refine lA hh fun h2 e k2 ⟨oe,q1,q2⟩=>?_;exact wpAny_bind (wpAny_isInstance (T := "StopIteration") (b:=true) ⟨oe,q1,q2⟩ isSubtype_stop (wpAny_pure (hQ h2 fun b o nb q=>k2 b o (s1.extBut b o nb q))))
end
def DcE(H:Hp)(a:Addr)(o:Obj)(es:List (V×V)):Prop:=(∃xs,H a=some (.frz o (dX a xs))/\es=xs.map (·.2))\/∃xs,H a=some (.frz o (.dK xs))/\es=xs.map fun p=>(kV p.1,p.2)
theorem DcE.mono{H':Hp}(p:Pers H H')(h:DcE H a o es):DcE H' a o es:=by
 rcases h with⟨xs,e,q⟩|⟨xs,e,q⟩
 .exact .inl ⟨xs,p.frzs _ _ _ e,q⟩
 .exact .inr ⟨xs,p.frzs _ _ _ e,q⟩
section
variable {X:Cx}{pins:List (Addr×Obj)}{σ:St}{H:Hp}{s:Shared}
theorem BU{P:Program}{kk:Key}{u:Value}(e:(cf P w).is kk u=true):RelV (kV kk) u:=by
 rcases bt e with⟨i,t,rfl,rfl⟩|⟨x,t,rfl,rfl⟩
 .exact⟨t,rfl⟩
 .exact⟨t,rfl⟩
theorem Inv.dce(I:Inv X pins σ H s)(h:DcE H a o es):(a==sysModules)=false/\∃ents ep,s.heap.get? a=some o/\o.ExactDict/\o.data = .dict ents ep/\Paired (fun(e:V×V) (d:DictEntry)=>RelV e.1 d.key/\RelV e.2 d.val) es ents.toList:=by
 rcases h with⟨xs,e,rfl⟩|⟨xs,e,rfl⟩
 .obtain⟨ho,⟨hs,hz,o',ents,ep,h1,h2,h3,h4⟩,_⟩:=(show ObjOk X.prog X.w H s.heap a (.frz o (dX a xs))from I.hok a _ e);rw[ho]at h1;cases h1;refine⟨hs,ents,ep,ho,h2,h3,?_⟩;clear e hz;generalize ents.toList=l at h4;rename_i zz;clear zz
  induction h4 with
  |nil=>exact .nil
  |cons q _ ih=>exact .cons q.2 ih
 .obtain⟨ho,hz,hs,vs,kv,o',ents,ep,h1,h2,h3,h4,h5,h6⟩:=(show ObjOk X.prog X.w H s.heap a (.frz o (.dK xs))from I.hok a _ e);rw[ho]at h1;cases h1;refine⟨hs,ents,ep,ho,h2,h3,?_⟩;generalize ents.toList=l at h5;clear h6 h4 h3 h2 hz e
  induction kv generalizing l with
  |nil=>cases h5;exact .nil
  | cons q _ ih =>
   cases h5 with
   |cons p1 p2 p3 =>
    rw[List.map_cons];refine .cons ⟨?_,?_⟩ (ih _ p3)
    .rw[<-q.1]at p1;exact BU p1
    .rw[p2];exact q.2
end
def Itm(a:Addr)(o:Obj)(es:List (V×V)):It where
 go:=fun i H=>DcE H a o es/\i<es.length
 yld:=fun i H v H'=>∃T p,v = .ref T/\H T=none/\H'=upd H T (.tup [p.1,p.2])/\es[i]?=some p
 stop:=fun i H=>DcE H a o es/\es.length≤i
def Itk(a:Addr)(o:Obj)(es:List (V×V)):It where
 go:=fun i H=>DcE H a o es/\i<es.length
 yld:=fun i H v H'=>H'=H/\∃p,es[i]?=some p/\v=p.1
 stop:=fun i H=>DcE H a o es/\es.length≤i
theorem Paired.at{α β:Type}{R:α->β->Prop}:∀{xs:List α}{ys:List β}{i:Nat}{y:β},Paired R xs ys->ys[i]?=some y->∃x,xs[i]?=some x/\R x y
 |_,_,i,y,.nil,e=>by simp at e
 |_,_,0,y,.cons h _,e=>by simp at e;subst e;exact⟨_,rfl,h⟩
 |_,_,i+1,y,.cons _ t,e=>by
  obtain⟨x,h1,h2⟩:=Paired.at t (i:=i) (by simpa using e);exact⟨x,by simpa using h1,h2⟩
theorem xU:entryFor table "dict_itemiterator.__iter__" = some Builtin.«dict_keyiterator.__iter__»:=entryFor_alias (id' := "dict_keyiterator.__iter__") (by kernel_rfl) (by rfl) (by decide +kernel) (by kernel_rfl)
theorem uO{prog:Program}{A:Around}{E:Value->Shared->Prop}{s:Shared}{d:Addr}{i n:Nat}{ok ov:Value}(st:IsItemIter s.heap it d i n ep ok ov)(h:Q (.ref it) s):wpAny (model prog w) A (pyIter (.ref it)) Q E s:=by
 have hT:s.TypeIs (.ref it) "dict_itemiterator" :=⟨_,st,rfl⟩;refine wpAny_pyIter_slot hT PySem.F.slot_dict_itemiterator_iter (wpAny_call_entry PySem.F.slot_dict_itemiterator_iter hT xU ?_ (PySem.F.args_dict_itemiterator_iter_1 _));refine wpAny_pure ⟨_,rfl,"dict_itemiterator",_,hT,PySem.F.slot_dict_itemiterator_next.lookup,?_⟩;exact h
theorem t8{P:Program}{K:PySem.W.Frag}{elts:List Expr}{x1:Nat}{pos:Pos}(ho:o.data = .dict ents ep):Turn P w K (.Tuple elts x1 pos) (Itm a o es) [it] it (fun i h=>∃ok ov,IsItemIter h it a i ents.size ep ok ov) where
 mem:=by simp
 obj:=fun i h st c hc=>by
  obtain⟨ok,ov,he⟩:=st
  cases List.mem_singleton.mp hc
  exact⟨_,he,fun v q=>by cases q⟩
 keep:=fun i h h' st k=>by
  obtain⟨ok,ov,he⟩:=st;exact⟨ok,ov,k it (by simp) _ he⟩
 item:=by
  intro X hP hw hK hc i pins s σ H E I hf st hg;subst hP hw hK;obtain⟨ok,ov,st⟩:=st;obtain⟨dc,hi⟩:=hg;obtain⟨_,ents',ep',g1,g2,g3,g4⟩:=I.dce dc;rw[ho]at g3;cases g3;have hl:es.length=ents.size:=by have:=g4.length;simpa using this
  have hi':i<ents.size:=by omega
  obtain⟨p,q1,q2,q3⟩:=Paired.at g4 (i:=i) (y:=ents[i]) (by simp[hi']);refine vv st ⟨o,g1,g2,ho⟩ hi' fun h' a1 a2 a3 a4=>⟨.ref s.heap.objs.size,rfl,?_⟩;refine wpAny_letOwnedTupleGo_items (s:={s with heap:=h' }) a1 fun h2 b1 sb=>?_;have hfT:H s.heap.objs.size=none:=I.hok.fresh (Nat.le_refl _);have nz:it≠s.heap.objs.size:=Nat.ne_of_lt (Heap.lt_size st);have up:∀c o,c≠it->h'.get? c=some o->h2.get? c=some o:=fun c o n q=>sb.extBut c o n q;have T2:h2.get? s.heap.objs.size=some {cls:=.type "tuple",data:=.seq #[ents[i].key,ents[i].val]}:=up _ _ (Ne.symm nz) a2;have I0:Inv X pins σ (upd H s.heap.objs.size (.tup [p.1,p.2])) {s with heap:=s.heap.push {cls:=.type "tuple",data:=.seq #[ents[i].key,ents[i].val]},toks:=s.toks} :=
   I.laid (o:=.tup [p.1,p.2]) (fun c o q=>Heap.get?_push_of_some _ q) (Nat.le_refl _) ⟨by show 2≤sizeLine;rw[sizeLine_eq];decide,[ents[i].key,ents[i].val],.cons q2 (.cons q3 .nil),PlainT.new _ _⟩
  have Il:Inv X pins σ (upd H s.heap.objs.size (.tup [p.1,p.2])) {s with heap:=h2,toks:=s.toks}:=by
   refine Inv.turneds (s:={s with heap:=s.heap.push {cls:=.type "tuple",data:=.seq #[ents[i].key,ents[i].val]},toks:=s.toks}) (h':=h2) (t':=s.toks) (ch:=[it]) I0 (fun c o hc q=>?_) fun c hc=>?_
   .have hc':c≠it:=fun z=>hc (by simp[z]);rcases Heap.get?_push_cases q with⟨rfl,rfl⟩|q
    .exact T2
    .exact up c o hc' (a4 c o hc' q)
   .obtain⟨f0,f1⟩:=hf c hc
    cases List.mem_singleton.mp hc
    exact⟨by rw[aw nz];exact f0,f1⟩
  refine⟨.ref s.heap.objs.size,upd H s.heap.objs.size (.tup [p.1,p.2]),Il,rfl,⟨_,p,rfl,hfT,rfl,q1⟩,⟨_,_,b1⟩,fun c hc=>?_⟩
  cases List.mem_singleton.mp hc
  rw[aw nz];exact(hf _ hc).1
 done:=by
  intro X hP hw hK hc i pins s σ H E I hf st hg;subst hP hw hK;obtain⟨ok,ov,st⟩:=st;obtain⟨dc,hi⟩:=hg;obtain⟨_,ents',ep',g1,g2,g3,g4⟩:=I.dce dc;rw[ho]at g3;cases g3;have hl:es.length=ents.size:=by have:=g4.length;simpa using this
  exact vc (I.ok.hd hc) st ⟨o,g1,g2,ho⟩ (by omega) fun h' hk=>⟨rfl,I.turneds (t':=s.toks) (ch:=[it]) (fun c o hc q=>hk c o (fun z=>hc (by simp[z])) q) hf⟩
 self:=fun _ _ _ _ _ st h=>by
  obtain⟨ok,ov,st⟩:=st;exact uO st h
theorem vg{P:Program}{K:PySem.W.Frag}{tg:Expr}(ho:o.data = .dict ents ep):Turn P w K tg (Itk a o es) [it] it (fun i h=>tq h it a i ents.size ep) where
 mem:=by simp
 obj:=fun i h st c hc=>by
  cases List.mem_singleton.mp hc
  exact⟨_,st.e,fun v q=>by cases q⟩
 keep:=fun i h h' st k=>⟨k it (by simp) _ st.e⟩
 item:=by
  intro X hP hw hK hc i pins s σ H E I hf st hg;subst hP hw hK;obtain⟨dc,hi⟩:=hg;obtain⟨_,ents',ep',g1,g2,g3,g4⟩:=I.dce dc;rw[ho]at g3;cases g3;have hl:es.length=ents.size:=by have:=g4.length;simpa using this
  have hi':i<ents.size:=by omega
  obtain⟨p,q1,q2,q3⟩:=Paired.at g4 (i:=i) (y:=ents[i]) (by simp[hi']);refine yr st ⟨o,g1,g2,ho⟩ hi' fun h' a1 a2=>⟨_,rfl,yH (s:={s with heap:=h' }) (n := "dict_keyiterator") a1.e rfl rfl (by decide) ⟨p.1,H,?_,q2,⟨rfl,p,q1,rfl⟩,a1,fun b hb=>(hf b hb).1⟩⟩;exact I.turneds (t':=s.toks) (ch:=[it]) (fun c o hc q=>a2 c o (fun z=>hc (by simp[z])) q) hf
 done:=by
  intro X hP hw hK hc i pins s σ H E I hf st hg;subst hP hw hK;obtain⟨dc,hi⟩:=hg;obtain⟨_,ents',ep',g1,g2,g3,g4⟩:=I.dce dc;rw[ho]at g3;cases g3;have hl:es.length=ents.size:=by have:=g4.length;simpa using this
  exact xR (I.ok.hd hc) st ⟨o,g1,g2,ho⟩ (by omega) fun h' hk=>⟨rfl,I.turneds (t':=s.toks) (ch:=[it]) (fun c o hc q=>hk c o (fun z=>hc (by simp[z])) q) hf⟩
 self:=fun _ _ _ _ _ st h=>wpAny_pyIter_keyiter ⟨_,st.e,rfl,rfl⟩ h
theorem vQ{K:Kd}{H:Hp}:∀{kvs:List (PyData×PyData)}{xs:List (Int×V×V)},DenKV K H kvs xs->Paired (fun(p:PyData×PyData) (e:V×V)=>Den K H p.1 e.1/\Den K H p.2 e.2) kvs (xs.map (·.2))
 |[],_,h=>by simp only[DenKV]at h;subst h;exact .nil
 |(k,d)::r,_,h=>by
  simp only[DenKV]at h;obtain⟨u,v,vs,rfl,h1,h2,h3⟩:=h;exact .cons ⟨h1,h2⟩ (vQ h3)
theorem ug{K:Kd}{H:Hp}:∀{kvs:List (PyData×PyData)}{xs:List (Key×V)},DenKK K H kvs xs->Paired (fun(p:PyData×PyData) (e:V×V)=>Den K H p.1 e.1/\Den K H p.2 e.2) kvs (xs.map fun p=>(kV p.1,p.2))
 |[],_,h=>by simp only[DenKK]at h;subst h;exact .nil
 |(k,d)::r,_,h=>by
  simp only[DenKK]at h;obtain⟨kk,v,vs,rfl,⟨rfl,_⟩,h2,h3⟩:=h;refine .cons ⟨?_,h2⟩ (ug h3)
  cases kk with
  |inl i=>exact lH i
  |inr x=>exact u8 x
abbrev PDc(K:Kd)(H:Hp):List (PyData×PyData)->List (V×V)->Prop:=Paired fun p e=>Den K H p.1 e.1/\Den K H p.2 e.2
theorem PDc.mono{H':Hp}(p:Pers H H')(h:PDc K H kvs es):PDc K H' kvs es:=by
 induction h with
 |nil=>exact .nil
 |cons h _ ih=>exact .cons ⟨h.1.mono p,h.2.mono p⟩ ih
theorem Iq{v:V}(h:Den K H (.dict kvs) v)(hk:isKd kvs=true\/kyA kvs=true):∃a o es,v = .ref a/\DcE H a o es/\PDc K H kvs es:=by
 obtain⟨n1,n2⟩:=nI hk;simp only[Den]at h;obtain⟨a,rfl,h⟩:=h;rcases h with⟨xs,⟨o,f⟩,kk,g⟩|⟨xs,o,f,g⟩|⟨c,xs,ec,_⟩
 .exact⟨a,o,_,rfl,.inl ⟨xs,f,rfl⟩,vQ g⟩
 .exact⟨a,o,_,rfl,.inr ⟨xs,f,rfl⟩,ug g⟩
 .rw[n2]at ec;cases ec
def dA(kvs:List (PyData×PyData)):List PyData:=kvs.map fun p=>.tuple [p.1,p.2]
def kl(kvs:List (PyData×PyData)):List PyData:=kvs.map (·.1)
theorem uu:Wks K (Itm a o es) (dA kvs) fun H=>DcE H a o es/\PDc K H kvs es where
 stop:=fun H ⟨q,g⟩=>⟨q,by unfold dA;rw[List.length_map,g.length];exact Nat.le_refl _⟩
 go:=fun i H hi ⟨q,g⟩=>⟨q,by unfold dA at hi;rw[List.length_map,g.length]at hi;exact hi⟩
 yld:=fun i H x H' hi ⟨q,g⟩ y=>by
  obtain⟨T,u,rfl,hT,rfl,e1⟩:=y;obtain⟨p,h1,h2,h3⟩:=Paired.at g e1;have gr:∀b o,H b=some o->upd H T (.tup [u.1,u.2]) b=some o:=fun b o q=>by rw[aw (aZ q hT)];exact q
  have pe:Pers H (upd H T (.tup [u.1,u.2])):=⟨fun b xs q=>gr b _ q,fun b o u q=>gr b _ q⟩;exact⟨gr,.tuple [p.1,p.2],by unfold dA;rw[List.getElem?_map,h1];rfl,dg (SqT.of aC) (DenAll.cons (h2.mono pe) (DenAll.cons (h3.mono pe) DenAll.nil))⟩
theorem yK:Wks K (Itk a o es) (kl kvs) fun H=>DcE H a o es/\PDc K H kvs es where
 stop:=fun H ⟨q,g⟩=>⟨q,by unfold kl;rw[List.length_map,g.length];exact Nat.le_refl _⟩
 go:=fun i H hi ⟨q,g⟩=>⟨q,by unfold kl at hi;rw[List.length_map,g.length]at hi;exact hi⟩
 yld:=fun i H x H' hi ⟨q,g⟩ y=>by
  obtain⟨rfl,u,e1,rfl⟩:=y;obtain⟨p,h1,h2,h3⟩:=Paired.at g e1;exact⟨fun b o z=>z,p.1,by unfold kl;rw[List.getElem?_map,h1];rfl,h2⟩
section
variable {X:Cx}{tg o:Expr}{elts:List Expr}{x1:Nat}{tpos:Pos}{wo:WE}{apos cpos:Pos}
def Js(to:TE):TI:=fun σ H Rq=>to σ H fun x H1=>∃a o es,x = .ref a/\DcE H1 a o es/\Rq (Itm a o es) H1
theorem ze{to:TE}(ho:PE X o to)(hbase:attributeBase o "items" X.env (eval o X.env)=eval o X.env:=by rfl)(hline:(apos.endLine==cpos.line)=true:=by rfl):PI X (.Tuple elts x1 tpos) (.Call (.Attribute o "items" apos) [] [] cpos) (Js to):=by
 intro pins s σ H Rq I h;refine wpAny_Call_method0_late hbase hline (thn (ho pins s σ H _ I h) fun v s1 ⟨x,H1,I1,r1,q1⟩=>?_);obtain⟨a,ob,es,rfl,dc,q⟩:=q1;cases r1;obtain⟨hs,ents,ep,g1,g2,g3,g4⟩:=I1.dce dc;have he:EntAt s1.heap a ents ep:=⟨ob,g1,g2,g3⟩;refine⟨"dict","dict.items",PySem.F.plainAttrs_dict,PySem.F.slot_dict_items,PySem.F.type_dict_items,⟨ob,g1,g2.1⟩,fun b e=>by cases e;exact⟨ob,g1,g2.2.1⟩,Calls.callWith_builtin rfl (PySem.evalArgs_none (tJ hs he ?_))⟩;have k1:∀b o,s1.heap.get? b=some o->(s1.heap.push {cls:=.type "dict_items",data:=.fields #[.ref a]}).get? b=some o:=fun b o q=>Heap.get?_push_of_some _ q;refine tj (s:={s1 with heap:=s1.heap.push {cls:=.type "dict_items",data:=.fields #[.ref a]} }) (Heap.get?_push_size _ rfl) (he.keep fun o=>k1 _ o) fun h' Z hk=>?_;have hle:s1.heap.objs.size≤(s1.heap.push {cls:=.type "dict_items",data:=.fields #[.ref a]}).objs.size:=by rw[Heap.size_push];omega
 refine⟨_,[_],_,_,H1,rfl,I1.kept (t':=s1.toks) fun b o q=>hk b o (k1 b o q),t8 g3,⟨_,_,Z⟩,fun c hc=>?_,q⟩
 cases List.mem_singleton.mp hc
 exact I1.fpOk hle (I1.hok.fresh hle)
def JJ(to:TE):TI:=fun σ H Rq=>to σ H fun x H1=>∃a o es,x = .ref a/\DcE H1 a o es/\Rq (Itk a o es) H1
theorem DE{to:TE}(ho:PE X o to):PI X tg o (JJ to):=by
 intro pins s σ H Rq I h;refine thn (ho pins s σ H _ I h) fun v s1 ⟨x,H1,I1,r1,q1⟩=>?_;obtain⟨a,ob,es,rfl,dc,q⟩:=q1;cases r1;obtain⟨hs,ents,ep,g1,g2,g3,g4⟩:=I1.dce dc;refine uD hs ⟨ob,g1,g2,g3⟩ fun h' Z hk=>?_;refine⟨_,[_],_,_,H1,rfl,I1.kept (t':=s1.toks) hk,vg g3,Z,fun c hc=>?_,q⟩
 cases List.mem_singleton.mp hc
 exact I1.fpOk (Nat.le_refl _) (I1.hok.fresh (Nat.le_refl _))
def onDc(P:List (PyData×PyData)->Prop):R->Prop
 | .imm (.dict kvs)=>(isKd kvs||kyA kvs)=true/\P kvs
 |_=>False
theorem IM{α:Al}{H0:Hp}{r:R}{v:V}(h:RelR K α H0 H r v)(k:onDc P r):∃kvs a o es,v = .ref a/\DcE H a o es/\PDc K H kvs es/\P kvs:=by
 cases r with
 | imm d =>
  cases d with
  |dict kvs =>
   obtain⟨k1,k2⟩:=k;obtain⟨a,o,es,e1,e2,e3⟩:=Iq (show Den K H (.dict kvs) v from h) (by rw[Bool.or_eq_true]at k1;exact k1);exact⟨kvs,a,o,es,e1,e2,e3,k2⟩
  |none=>exact k.elim
  |bool _=>exact k.elim
  |int _=>exact k.elim
  |str _=>exact k.elim
  |list _=>exact k.elim
  |tuple _=>exact k.elim
 |_=>exact k.elim
def qf(wo:WE):WI:=fun m K=>wo m fun r m'=>onDc (fun kvs=>K ⟨dA kvs,none⟩ m') r
def qR(wo:WE):WI:=fun m K=>wo m fun r m'=>onDc (fun kvs=>K ⟨kl kvs,none⟩ m') r
theorem yU(ho:ME X o wo)(hbase:attributeBase o "items" X.env (eval o X.env)=eval o X.env:=by rfl)(hline:(apos.endLine==cpos.line)=true:=by rfl):MI X (.Tuple elts x1 tpos) (.Call (.Attribute o "items" apos) [] [] cpos) (qf wo):=(ze ho hbase hline).wk fun σ H Rq ⟨α,m,Kc,Rl,hw,fin⟩=>by
 refine⟨α,m,_,Rl,hw,fun r m' v H' k n Rl' rr F=>?_⟩;obtain⟨kvs,a,ob,es,rfl,dc,pd,k⟩:=IM rr k;exact⟨a,ob,es,rfl,dc,fin _ m' _ H' k n Rl' F ⟨_,uu,⟨dc,pd⟩,fun Ha Hb ⟨x,y⟩ pe=>⟨x.mono pe,y.mono pe⟩⟩⟩
theorem Ba(ho:ME X o wo):MI X tg o (qR wo):=(DE ho).wk fun σ H Rq ⟨α,m,Kc,Rl,hw,fin⟩=>by
 refine⟨α,m,_,Rl,hw,fun r m' v H' k n Rl' rr F=>?_⟩;obtain⟨kvs,a,ob,es,rfl,dc,pd,k⟩:=IM rr k;exact⟨a,ob,es,rfl,dc,fin _ m' _ H' k n Rl' F ⟨_,yK,⟨dc,pd⟩,fun Ha Hb ⟨x,y⟩ pe=>⟨x.mono pe,y.mono pe⟩⟩⟩
theorem mQ(ho:EE X o wo)(hbase:attributeBase o "items" X.env (eval o X.env)=eval o X.env:=by rfl)(hline:(apos.endLine==cpos.line)=true:=by rfl):EI X (.Tuple elts x1 tpos) (.Call (.Attribute o "items" apos) [] [] cpos) (qf wo):=⟨yU ho.h hbase hline⟩
theorem rh(ho:EE X o wo):EI X tg o (qR wo):=⟨Ba ho.h⟩
theorem u5{m:MSt}(h:wo m fun r m'=>onDc (fun kvs=>Ks ⟨dA kvs,none⟩ m') r):qf wo m Ks:=h
theorem zO{m:MSt}(h:wo m fun r m'=>onDc (fun kvs=>Ks ⟨kl kvs,none⟩ m') r):qR wo m Ks:=h
theorem qp(hk:(isKd kvs||kyA kvs)=true)(h:P kvs):onDc P (.imm (.dict kvs)):=⟨hk,h⟩
end
noncomputable def putX (k:PyData) (b:Addr) (r:Value):List (PyData×Addr×Value)->List (PyData×Addr×Value)
 |[]=>[(k,b,r)]
 |x::xs=>if x.1=k then(x.1,x.2.1,r)::xs else x::putX k b r xs
theorem qE{k:PyData}{r:Value}:∀{xs:List (PyData×Addr×Value)},k∉xs.map (·.1)->xs.map (putAt k r)=xs
 |[],_=>rfl
 |x::xs,h=>by
  rw[List.map_cons,List.mem_cons,not_or]at h;rw[List.map_cons,qE h.2];unfold putAt;rw[if_neg (fun z=>h.1 z.symm)]
theorem jy{k:PyData}{b:Addr}{r:Value}:∀{xs:List (PyData×Addr×Value)},(xs.map (·.1)).Nodup->storedH xs k b r=putX k b r xs
 |[],_=>rfl
 | x::xs,h=>by
  rw[List.map_cons,List.nodup_cons]at h
  by_cases e:x.1=k
  .have a:atKey (x::xs) k=some x.2:=by simp[atKey,List.find?_cons,e]
   rw[storedH_old a,List.map_cons,qE (by rw[<-e];exact h.1)];unfold putX putAt;rw[if_pos e,if_pos e]
  .have a:atKey (x::xs) k=atKey xs k:=by simp[atKey,List.find?_cons,e]
   have ih:=jy (k:=k) (b:=b) (r:=r) h.2;unfold putX;rw[if_neg e,<-ih];unfold storedH;rw[a];split
   .rw[List.map_cons]
    congr 1
    unfold putAt;rw[if_neg e]
   .rfl
noncomputable def putE (w:World) (k:PyData) (y v:V):List (PyData×PyData)->List (Int×V×V)->List (Int×V×V)
 |(k',_)::r,e::es=>if k'=k then(e.1,e.2.1,v)::es else e::putE w k y v r es
 |_,_=>[(dH w k,y,v)]
theorem uj{k d k' d':PyData}{r:List (PyData×PyData)}(h:kyD k'=true)(hk:kyD k=true):putP k d ((k',d')::r)=if k'=k then(k',d)::r else(k',d')::putP k d r:=by
 show(if PyData.eqv k' k=true then _ else _)=_;rw[nh _ _ (km h) (km hk)]
 by_cases e:k'=k
 .rw[if_pos e,if_pos (decide_eq_true e)]
 .rw[if_neg e,if_neg (by rw[decide_eq_false e];decide)]
theorem sk(w:World)(k:PyData)(y v:V):∀(kvs:List (PyData×PyData)) (es:List (Int×V×V)),kvs.length=es.length->(putE w k y v kvs es).length≤es.length+1
 |[],[],_=>Nat.le_refl _
 |(k',d')::r,e::es,h=>by
  unfold putE;split
  .simp
  .rw[List.length_cons,List.length_cons];have:=sk w k y v r es (by simpa using h);omega
 |[],_::_,h=>by simp at h
 |_::_,[],h=>by simp at h
theorem qU{K:Kd}{H:Hp}{k d:PyData}{y v:V}(hk:kyD k=true)(dk:Den K H k y)(dd:Den K H d v):∀{kvs:List (PyData×PyData)}{es:List (Int×V×V)},kyA kvs=true->DenKV K H kvs es->DenKV K H (putP k d kvs) (putE K.w k y v kvs es)
 |[],es,_,g=>by
  simp only[DenKV]at g;subst g;show DenKV K H [(k,d)] [(dH K.w k,y,v)];simp only[DenKV];exact⟨y,v,[],rfl,dk,dd,rfl⟩
 |(k',d')::r,es,ha,g=>by
  rw[kyA,List.all_cons,Bool.and_eq_true]at ha;simp only[DenKV]at g;obtain⟨u,v',vs,rfl,g0,g1,g2⟩:=g;rw[uj ha.1 hk];unfold putE
  by_cases e:k'=k
  .rw[if_pos e,if_pos e];simp only[DenKV];exact⟨u,v,vs,rfl,g0,dd,g2⟩
  .rw[if_neg e,if_neg e];simp only[DenKV];exact⟨u,v',_,rfl,g0,g1,qU hk dk dd ha.2 g2⟩
theorem BF{k:PyData}{b:Addr}{v:V}{r:Value}(rv:RelV v r):∀{kvs:List (PyData×PyData)}{es:List (Int×V×V)}{xs:List (PyData×Addr×Value)},xs.map (·.1)=kvs.map (·.1)->ExV w es xs->ExV w (putE w k (.ref b) v kvs es) (putX k b r xs):=by
 intro kvs
 induction kvs with
 |nil =>
  intro es xs hk ex;have:xs=[]:=by simpa using hk
  subst this;cases ex;exact .cons ⟨rfl,rfl,rv⟩ .nil
 | cons q kvs ih =>
  intro es xs hk ex;obtain⟨k',d'⟩:=q
  cases ex with
  |nil=>simp at hk
  |cons h t =>
   simp only[List.map_cons,List.cons.injEq]at hk;unfold putE putX
   by_cases c:k'=k
   .rw[if_pos c,if_pos (hk.1.trans c)];exact .cons ⟨h.1,h.2.1,rv⟩ t
   .rw[if_neg c,if_neg (fun z=>c (hk.1.symm.trans z))];exact .cons h (ih hk.2 t)
def DxM(K:Kd)(H:Hp)(a:Addr)(kvs:List (PyData×PyData))(es:List (Int×V×V)):Prop :=
 DenKV K H kvs es/\(kvs.map (·.1)).Nodup/\kyA kvs=true/\((H a=some (dX a es)/\kvs≠[])\/(H a=some (.dK [])/\kvs=[]))
section
variable {X:Cx}{pins:List (Addr×Obj)}{σ:St}{H:Hp}{s:Shared}{a:Addr}{kvs:List (PyData×PyData)}{es:List (Int×V×V)}{k d:PyData}{y v:V}{u r:Value}{A:Around}{E:Value->Shared->Prop}
theorem DxM.is(I:Inv X pins σ H s)(h:DxM X.kd H a kvs es):(a==sysModules)=false/\∃xs,s.heap.DictOfH (jb X.prog X.w) a xs/\PxV X.kd H kvs xs/\ExV X.w es xs:=by
 obtain⟨g,nd,ky,⟨q,_⟩|⟨q,rfl⟩⟩:=h
 .obtain⟨hs,_,xs,dd,p,e⟩:=I.dcE (.inl q) g nd ky;exact⟨hs,xs,dd,p,e⟩
 .obtain⟨hs,dd⟩:=I.dc0 (.inl q);simp only[DenKV]at g;subst g;exact⟨hs,[],dd,.nil,.nil⟩
theorem z7{Q:Unit->Shared->Prop}(hu:A.units+20<cLine)(I:Inv X pins σ H s)(h:DxM X.kd H a kvs es)(hk:kyD k=true)(dk:Den X.kd H k y)(ry:RelV y u)(rv:RelV v r)(hl:kvs.length<sizeLine)
  (fin:∀s',Inv X pins σ (upd H a (dX a (putE X.w k y v kvs es))) s'->Q () s'):wpAny (model X.prog X.w) A (dictSet a u r) Q E s:=by
 obtain⟨hs,xs,dd,px,ex⟩:=h.is I;obtain⟨b,rfl⟩:=oz hk dk
 cases (show u=Value.ref b from ry)
 have le:es.length=kvs.length:=h.1.len.symm;have lx:xs.length=kvs.length:=by have:=congrArg List.length px.keys;simpa using this
 refine wpAny_dictSet_heap (knd:=jb X.prog X.w) hu (I.ky hk dk) dd (fun h' dd' hsb=>fin _ ?_) (by omega);rw[jy (by rw[px.keys];exact h.2.1)]at dd';obtain⟨o,ents,ep,h1,h2,h3,h4,h5,h6⟩:=dd';have mu:Mut (H a):=by
  rcases h.2.2.2 with⟨q,_⟩|⟨q,_⟩
  .rw[q];exact trivial
  .rw[q];exact trivial
 refine pJ I mu hsb ⟨o,h1⟩ ⟨⟨hs,?_,o,ents,ep,h1,h2,h3,?_⟩,⟨o,h1⟩,fun ha hb φ kk=>?_⟩
 .have:=sk X.w k (.ref b) v kvs es le.symm;omega
 .rw[h4];have:=BF (w:=X.w) (k:=k) (b:=b) rv px.keys ex;generalize putE X.w k (.ref b) v kvs es=l1 at this;generalize putX k b r xs=l2 at this;clear h4 h5 h6
  induction this with
  |nil=>exact .nil
  |cons q _ ih=>exact .cons ⟨q.1.symm,by rw[q.2.1];rfl,q.2.2⟩ ih
 .obtain⟨z1,z2,o',ents',ep',z3,z4⟩:=φ;exact⟨z1,z2,o',ents',ep',kk o' z3,z4⟩
theorem tP{Q:Unit->Shared->Prop}(hu:A.units+64<cLine)(I:Inv X pins σ H s)(h:DxM X.kd H a kvs es)(hk:kyD k=true)(dk:Den X.kd H k y)(ry:RelV y u)(rv:RelV v r)(hl:kvs.length<sizeLine)
  (fin:∀s',Inv X pins σ (upd H a (dX a (putE X.w k y v kvs es))) s'->Q () s'):wpAny (model X.prog X.w) A (setItem (.ref a) u r) Q E s:=by
 obtain⟨hs,xs,dd,px,ex⟩:=h.is I;unfold setItem;refine wpAny_holding ?_;refine wpAny_bind (wpAny_sequenceKey dd.typeIs (by decide) ?_);refine wpAny_bind (wpAny_callSpecial?_slot (name:=Str.ofString "__setitem__") dd.typeIs slot_dict_setitem (wpAny_call_entry slot_dict_setitem dd.typeIs entry_dict_setitem ?_ (args_dict_setitem _ _ _)));refine wpAny_bind (m:=Builtin.Dict.notOrdered "__setitem__" _) (wpAny_notOrdered_dict dd.typeIs ?_);refine wpAny_bind (m:=dictSet a u r) (z7 (A:=A.in1) (by show A.units+1+20<cLine;omega) I h hk dk ry rv hl fun s' I'=>wpAny_pure ⟨.none,rfl,wpAny_pure (fin s' I')⟩)
end
def GQ(K:Kd)(td ty tv:TE):TS:=fun D σ H=>tv σ H fun v H1=>td σ H1 fun x H2=>ty σ H2 fun y H3=>∃a kvs es k,x = .ref a/\DxM K H3 a kvs es/\kyD k=true/\Den K H3 k y/\kvs.length<sizeLine/\D.nx σ (upd H3 a (dX a (putE K.w k y v kvs es)))
section
variable {X:Cx}{o i e:Expr}{wo wi we:WE}{pos pos':Pos}{td ty tv:TE}
theorem yz(hu:X.A.units+64<cLine)(ho:PE X o td)(hi:PE X i ty)(hv:PE X e tv)(hs:swapsWith e (some (.Subscript o i pos')) pos.line X.env=pure false):PS X (.Assign [.Subscript o i pos'] e pos) (GQ X.kd td ty tv):=by
 intro pins s σ H D I h;refine wpAny_Assign_Subscript (thn (hv pins s σ H _ I h) fun r s1 ⟨v,H1,I1,rv,q1⟩=>thn (ho pins s1 σ H1 _ I1 q1) fun u s2 ⟨x,H2,I2,rx,q2⟩=>thn (hi pins s2 σ H2 _ I2 q2) fun iv s3 ⟨y,H3,I3,ry,a,kvs,es,k,ex,dx,ky,dk,hl,q3⟩=>?_) hs;subst ex;obtain rfl:u=Value.ref a:=rx;exact tP hu I3 dx ky dk ry rv hl fun s4 I4=>⟨σ,_,I4,q3⟩
theorem jD{k d:PyData}(hk:kyD k=true):∀{kvs:List (PyData×PyData)},kyA kvs=true->(putP k d kvs).map (·.1)=if k∈kvs.map (·.1)then kvs.map (·.1)else kvs.map (·.1)++[k]
 |[],_=>rfl
 | (k',d')::r,h=>by
  rw[kyA,List.all_cons,Bool.and_eq_true]at h;rw[uj h.1 hk]
  by_cases e:k'=k
  .rw[if_pos e,if_pos (by simp[e])];rfl
  .rw[if_neg e,List.map_cons,jD hk h.2]
   by_cases c:k∈r.map (·.1)
   .rw[if_pos c,if_pos (by simp[c])];rfl
   .rw[if_neg c,if_neg (by simp only[List.map_cons,List.mem_cons,not_or];exact⟨fun z=>e z.symm,c⟩)];rfl
theorem sY{k d:PyData}(hk:kyD k=true)(h:kyA kvs=true)(nd:(kvs.map (·.1)).Nodup):((putP k d kvs).map (·.1)).Nodup:=by
 rw[jD hk h];split
 .exact nd
 .rename_i c;exact List.nodup_append.mpr ⟨nd,by simp,fun a ha b hb=>by simp at hb;subst hb;exact fun z=>c (z▸ha)⟩
theorem qQ{k d:PyData}(hk:kyD k=true)(h:kyA kvs=true):kyA (putP k d kvs)=true:=by
 have e:∀l:List (PyData×PyData),kyA l=(l.map (·.1)).all kyD:=fun l=>by unfold kyA;rw[List.all_map];rfl
 rw[e,jD hk h];rw[e]at h;split
 .exact h
 .rw[List.all_append,h];simp[hk]
theorem CF(k d:PyData)(kvs:List (PyData×PyData)):putP k d kvs≠[]:=by
 cases kvs with
 |nil=>intro h;cases h
 |cons x r =>
  obtain⟨k',d'⟩:=x;show(if _ then _ else _)≠_
  split<;>simp
theorem zr(h:kyA kvs=true)(n:kvs≠[]):isKd kvs=false:=by
 cases kvs with
 |nil=>exact(n rfl).elim
 |cons x r =>
  obtain⟨k,d⟩:=x;rw[kyA,List.all_cons,Bool.and_eq_true]at h;obtain⟨ds,rfl,_⟩:=gC h.1;rfl
theorem jw(h:kyA kvs=true)(n:kvs≠[])(nd:(kvs.map (·.1)).Nodup):uF kvs :=
 ⟨zr h n,nd,fun k hk=>by
  obtain⟨x,hx,rfl⟩:=List.mem_map.mp hk;exact km (List.all_eq_true.mp h x hx)⟩
def xz(we wo wi:WE):WS:=fun D m=>we m fun rv m1=>cX (fun d=>wo m1 fun ro m2=>wi m2 fun ri m3=>onAt (fun k p=>cX (fun y=>p=[]/\∃kvs,m3.os[k]?=some [.dict (lfKV kvs)]/\kyA kvs=true/\kyD y=true/\kvs.length<sizeLine/\D.nx {m3 with os:=m3.os.set k [.dict (lfKV (putP y d kvs))]}) ri) ro) rv
theorem Aq(kvs:List (PyData×PyData)):kyA (lfKV kvs)=kyA kvs:=by
 unfold kyA lfKV;rw[List.all_map];rfl
theorem Rel.dx{K:Kx}{α:Al}{m:MSt}{σ:St}{k:Nat}{τ:List (List Nat×Addr)}(Rl:Rel K α m σ H)(e1:α[k]?=some (.T τ))(e2:τ.lookup []=some a)(e3:m.os[k]?=some [.dict (lfKV kvs)])(ky:kyA kvs=true):∃es,DxM K H a kvs es:=by
 obtain⟨⟨t1,v0,z,g,a0,ea0,ev0⟩,_⟩:=Rl.own k (.T τ) _ e1 e3;cases z;obtain⟨n1,n2⟩:=nI (.inr (by rw[Aq];exact ky):isKd (lfKV kvs)=true\/kyA (lfKV kvs)=true);simp only[TAt]at g;rcases g with⟨d,z1,_⟩|⟨_,_,b,es,z1,z3,z4,kk,g⟩|⟨_,_,b,es,z1,z3,z4,g⟩|⟨c,b,dx,C,xs,z0,_⟩
 .rw[n1]at z1;cases z1
 .rw[e2]at z1;cases z1;exact⟨es,fzKV g,by rw[<-gU];exact kk.2.1,ky,.inl ⟨z4,fun z=>by subst z;exact absurd kk.1 (by decide)⟩⟩
 .rw[e2]at z1;cases z1;obtain⟨rfl,rfl⟩:=D5 (fzKK g) ky;exact⟨[],by simp only[DenKV],List.nodup_nil,rfl,.inr ⟨z4,rfl⟩⟩
 .rw[n2]at z0;cases z0
theorem yn(hu:X.A.units+64<cLine)(he:ME X e we)(ho:ME X o wo)(hi:ME X i wi)(hs:swapsWith e (some (.Subscript o i pos')) pos.line X.env=pure false:=by rfl):MS X (.Assign [.Subscript o i pos'] e pos) (xz we wo wi):=(yz hu ho hi he hs).wk fun D σ H ⟨α,m,De,Rl,hw,k⟩=>by
 refine⟨α,m,_,Rl,hw,fun r m1 v H1 q n1 Rl1 rr F1=>?_⟩;obtain⟨d,er,hd,q⟩:=dU rr q;refine⟨α,m1,_,Rl1,q,fun ro m2 ov H2 q2 n2 Rl2 rr2 F2=>⟨α,m2,_,Rl2,q2,fun ri m3 iv H3 q3 n3 Rl3 rr3 F3=>?_⟩⟩;obtain⟨kk,p,τ,a,rfl,e1,e2,rfl,q3⟩:=Gu rr2 q3;obtain⟨y,rfl,hy,rfl,kvs,e3,ky,kyy,hl,q3⟩:=dU rr3 q3;obtain⟨es,dx⟩:=Rl3.dx e1 e2 e3 ky;have hd3:Den X.kx H3 d v:=(hd.mono (Rl1.pers F2)).mono (Rl2.pers F3);obtain⟨⟨t1,v0,z,g,a0,ea0,ev0⟩,mu⟩:=Rl3.own kk (.T τ) _ e1 e3;cases z;obtain⟨u0,hu0,mu0⟩:∃u,H3 a=some u/\Mu u=true:=by
  rcases dx.2.2.2 with⟨q,_⟩|⟨q,_⟩
  .exact⟨_,q,rfl⟩
  .exact⟨_,q,rfl⟩
 have pe:Pers H3 (upd H3 a (dX a (putE X.w y iv v kvs es))):=bx (.inr ⟨u0,hu0,mu0⟩);have ok:=jw (kvs:=putP y d kvs) (qQ kyy ky) (CF y d kvs) (sY kyy ky dx.2.1);have new:TAt X.kx (upd H3 a (dX a (putE X.w y iv v kvs es))) τ [] (.dict (lfKV (putP y d kvs))) (.ref a):=by
  obtain⟨z1,z2⟩:=nI (.inr (by rw[Aq];exact qQ kyy ky):isKd (lfKV (putP y d kvs))=true\/kyA (lfKV (putP y d kvs))=true);simp only[TAt];refine .inr (.inl ⟨z1,z2,a,_,e2,rfl,aC,⟨by rw[iR];exact ok.1,by rw[gU];exact ok.2.1,by rw[gU];exact ok.2.2⟩,Fw ?_⟩);exact qU kyy (hy.mono pe) (hd3.mono pe) ky (DenKV.mono pe dx.1)
 rw[e2]at ea0;cases ea0;subst ev0;obtain⟨R4,F4⟩:=Rl3.setW e1 pe (ds':=[.dict (lfKV (putP y d kvs))]) (fun b hb=>aw fun eb=>hb (eb▸bj e2)) ⟨⟨_,.ref a,rfl,new,a,e2,rfl⟩,fun b hb=>by
  by_cases eb:b=a
  .subst eb;exact⟨_,aC,rfl⟩
  .rw[aw eb];exact mu b hb⟩
 exact⟨a,kvs,es,y,rfl,dx,kyy,hy,hl,k.nx α _ σ _ q3 (n3.trans (n2.trans n1)) R4 (.of R4 (((F1.trans F2).trans F3).trans F4))⟩
theorem mT(hu:X.A.units+64<cLine)(he:EE X e we)(ho:EE X o wo)(hi:EE X i wi)(hs:swapsWith e (some (.Subscript o i pos')) pos.line X.env=pure false:=by rfl):ES X (.Assign [.Subscript o i pos'] e pos) (xz we wo wi):=⟨yn hu he.h ho.h hi.h hs⟩
theorem xK{D:cZ}{m:MSt}(h:we m fun rv m1=>cX (fun d=>wo m1 fun ro m2=>wi m2 fun ri m3=>onAt (fun k p=>cX (fun y=>p=[]/\∃kvs,m3.os[k]?=some [.dict (lfKV kvs)]/\kyA kvs=true/\kyD y=true/\kvs.length<sizeLine/\D.nx {m3 with os:=m3.os.set k [.dict (lfKV (putP y d kvs))]}) ri) ro) rv):xz we wo wi D m:=h
def wFzX(w:WS):WS:=fun D m=>∃(k j:Nat) (kvs:List (PyData×PyData)) (ρ:List Nat) (m2:MSt),m.vs[j]?=some (some (.at k []))/\m.os[k]?=some [.dict (lfKV kvs)]/\kyA kvs=true/\Fz k (.dict kvs) ρ m m2/\w D m2
theorem Ac{st:Stmt}{w:WS}(h:MS X st w):MS X st (wFzX w):=(IK h).wk fun D σ H ⟨α,m,De,Rl,⟨k,j0,kvs,ρ,m2,ej,eo,ky,F,hw⟩,ke⟩=>by
 obtain⟨v,ev,τ,a,ea,el,rfl⟩:=Rl.var j0 _ ej;obtain⟨es,dx⟩:=Rl.dx ea el eo ky;have name:∀(j:Nat) (v:V),(m.vs[j]?=some (some (.obj k))\/m.vs[j]?=some (some (.at k [])))->σ[j]?=some (some v)->v = .ref a:=fun j v hj evj=>by
  rcases hj with hj|hj
  .obtain⟨v',ev',a',ea',_⟩:=Rl.var j _ hj;rw[ea]at ea';cases ea'
  .obtain⟨v',ev',τ',a',ea',el',rfl⟩:=Rl.var j _ hj;rw[ea]at ea';cases ea';rw[el]at el';cases el';rw[evj]at ev';cases ev';rfl
 rcases dx.2.2.2 with⟨q,ne⟩|⟨q,rfl⟩
 .refine o6 Rl ke F ea (bj el) q rfl rfl (fun o pe=>?_) name hw;simp only[Den];exact⟨a,rfl,.inl ⟨es,⟨o,aC⟩,jw ky ne dx.2.1,DenKV.mono pe dx.1⟩⟩
 .refine o6 Rl ke F ea (bj el) q rfl rfl (fun o pe=>?_) name hw;simp only[Den];exact⟨a,rfl,.inr (.inl ⟨[],o,aC,by simp only[DenKK]⟩)⟩
theorem B7{st:Stmt}{w:WS}(h:ES X st w):ES X st (wFzX w):=⟨Ac h.h⟩
theorem Cg{w:WS}{D:cZ}{m:MSt}(k j:Nat)(kvs:List (PyData×PyData))(ρ:List Nat)(m2:MSt)(e1:m.vs[j]?=some (some (.at k [])))(e2:m.os[k]?=some [.dict (lfKV kvs)])(e3:kyA kvs=true)(F:Fz k (.dict kvs) ρ m m2)(h:w D m2):wFzX w D m:=⟨k,j,kvs,ρ,m2,e1,e2,e3,F,h⟩
def GM(K:Kd)(tk tv:TE):TE:=fun σ H Q=>∀p,H p=none->tk σ (upd H p (.dK [])) fun y H1=>tv σ H1 fun v H2=>H2 p=some (.dK [])/\∃k,kyD k=true/\Den K H2 k y/\∀ob,Q (.ref p) (upd H2 p (.frz ob (dX p [(dH K.w k,y,v)])))
theorem yB{tk tv:TE}(hu:X.A.units+64<cLine)(hk:PE X i tk)(hv:PE X e tv):PE X (.Dict [some i] [e] pos) (GM X.kd tk tv):=by
 intro pins s σ H Q I q;have hn:=I.hok.fresh (Nat.le_refl s.heap.objs.size);have I1:=I.laid (a:=s.heap.objs.size) (o:=.dK []) (h':=s.heap.push {cls:=.type "dict",data:=.dict #[]}) (t':=s.toks) (fun _ _ q=>Heap.get?_push_of_some _ q) (Nat.le_refl _) (qz s.heap I.big);refine wpAny_Dict_any rfl rfl (by simp) (show 1≤15 by decide) (pairTrees_cons_walk (thn (hk pins _ σ _ _ I1 (q _ hn)) fun u s1 ⟨y,H1,I2,ry,q1⟩=>thn (hv pins s1 σ H1 _ I2 q1) fun r s2 ⟨v,H2,I3,rv,e0,k,ky,dk,q2⟩=>pairTrees_nil_walk ?_));unfold storeAll;rw[List.forIn_cons];refine wpAny_bind (wpAny_bind (z7 (kvs:=[]) (es:=[]) (by omega) I3 ⟨by simp only[DenKV],List.nodup_nil,rfl,.inr ⟨e0,rfl⟩⟩ ky dk ry rv (by rw[sizeLine_eq];decide) fun s' I'=>wpAny_pure ?_));obtain⟨ob,I4⟩:=I'.freezeU aC rfl;have e1:upd (upd H2 s.heap.objs.size (dX s.heap.objs.size (putE X.w k y v [] []))) s.heap.objs.size (.frz ob (dX s.heap.objs.size (putE X.w k y v [] [])))=upd H2 s.heap.objs.size (.frz ob (dX s.heap.objs.size [(dH X.w k,y,v)])):=by
  funext b
  by_cases c:b=s.heap.objs.size
  .subst c;rw[aC,aC];rfl
  .rw[aw c,aw c,aw c]
 rw[e1]at I4;exact wpAny_pure ⟨.ref s.heap.objs.size,_,I4,rfl,q2 ob⟩
def wZ(wk wv:WE):WE:=fun m K=>wk m fun rk m1=>cX (fun k=>wv m1 fun rv m2=>cX (fun d=>kyD k=true/\K (.imm (.dict [(k,d)])) m2) rv) rk
theorem yo(hu:X.A.units+64<cLine)(hk:ME X i wi)(hv:ME X e we):ME X (.Dict [some i] [e] pos) (wZ wi we):=(yB hu hk hv).wk fun σ H Q ⟨α,m,Kc,Rl,hw,fin⟩=>by
 intro p hp;refine⟨α,m,_,Rl.lay hp,hw,fun rk m1 y H1 k1 n1 Rl1 rr1 F1=>?_⟩;obtain⟨k,rfl,hky,k1⟩:=dU rr1 k1;refine⟨α,m1,_,Rl1,k1,fun rv m2 v H2 k2 n2 Rl2 rr2 F2=>?_⟩;obtain⟨d,rfl,hd,kd,k2⟩:=dU rr2 k2;have hpα:p∉ads α:=Rl.out hp;have e1:H2 p=some (.dK []):=F2 p _ (F1 p _ aC hpα) hpα;have hk2:Den X.kx H2 k y:=hky.mono (Rl1.pers F2);refine⟨e1,k,kd,hk2,fun ob=>?_⟩;have pe:Pers H2 (upd H2 p (.frz ob (dX p [(dH X.w k,y,v)]))):=bx (.inr ⟨_,e1,rfl⟩);have fr:Frm α H (upd H2 p (.frz ob (dX p [(dH X.w k,y,v)]))):=fun b o eb nb=>by
  have ne:b≠p:=aZ eb hp;rw[aw ne];exact F2 b o (F1 b o (by rw[aw ne];exact eb) nb) nb
 have old:Ext X.kx.eb.np α H α (upd H2 p (.frz ob (dX p [(dH X.w k,y,v)]))):=⟨rfl,fr,fun _ h=>.inl h,fun b hb=>by
  have hbp:b≠p:=fun e=>hpα (e▸hb);rw[aw hbp];obtain⟨o',e',_⟩:=Rl2.mem hb;exact⟨o',e'⟩⟩
 refine fin _ m2 _ _ k2 (n2.trans n1) (Rl2.at' pe (fun b hb=>aw fun e=>hpα (e▸hb)) (Rl.ebx.trans old)) (show Den X.kx _ (.dict [(k,d)]) (.ref p)from ?_) fr;simp only[Den];refine⟨p,rfl,.inl ⟨_,⟨ob,aC⟩,jw (by simp[kyA,kd]) (by simp) (by simp),?_⟩⟩;simp only[DenKV];exact⟨y,v,[],rfl,hk2.mono pe,hd.mono pe,rfl⟩
theorem nR(hu:X.A.units+64<cLine)(hk:EE X i wi)(hv:EE X e we):EE X (.Dict [some i] [e] pos) (wZ wi we):=⟨yo hu hk.h hv.h⟩
theorem xq{m:MSt}{K:R->MSt->Prop}(h:wi m fun rk m1=>cX (fun k=>we m1 fun rv m2=>cX (fun d=>kyD k=true/\K (.imm (.dict [(k,d)])) m2) rv) rk):wZ wi we m K:=h
theorem xL{a b:PyData}(ha:kdD a=true)(hb:kdD b=true):wG a b=PyData.eqv a b:=by
 obtain⟨ka,rfl⟩:=jA ha;obtain⟨kb,rfl⟩:=jA hb;rw[vK,mW]
theorem pz{y d:PyData}(hy:kdD y=true):∀{kvs:List (PyData×PyData)},isKd kvs=true->putD y (lfD d) (lfKV kvs)=lfKV (putP y d kvs)
 |[],_=>rfl
 |(k',d')::r,h=>by
  rw[lB,List.all_cons,Bool.and_eq_true]at h;have ih:=pz (y:=y) (d:=d) hy (kvs:=r) (by rw[lB];exact h.2);show(if wG k' y=true then _ else _)=lfKV (if PyData.eqv k' y=true then _ else _);rw[xL h.1 hy];split
  .rfl
  .show _::putD y (lfD d) (lfKV r)=_;rw[ih];rfl
end
end L2
namespace K
open PySem L2 M7
variable{D a b t v:Int}{S n q:Nat}{h:Hall}{r:Rule}{l:List Nat}{W:List (Pt×Int)}{L:List Pr}
theorem uJ(h:a.natAbs<10^160):Builtin.Int.intBits a≤540:=intBits_le_iff.mpr (Nat.lt_trans h (by decide))
theorem cx(ha:a.natAbs<10^160)(hb:b.natAbs<10^160):IntMulOk a b:=IntMulOk.of_le (uJ ha) (uJ hb) (by decide)
theorem cfdB{i:Int}{g:Nat}(h0:0<g)(h:g<10^160):CFd i (g:Int):=⟨by omega,by
 rw[Int.natAbs_natCast];have:=(Nat.log2_lt (by omega)).mpr (Nat.lt_trans h (show 10^160<2^540 by decide));omega⟩
def nfP(t b:Int):Int×Int:=if b<0 then((-t)/((t.natAbs.gcd b.natAbs:Nat):Int),(-b)/((t.natAbs.gcd b.natAbs:Nat):Int))else(t/((t.natAbs.gcd b.natAbs:Nat):Int),b/((t.natAbs.gcd b.natAbs:Nat):Int))
def nf(t b:Int):PyData:=.tuple [.int (nfP t b).1,.int (nfP t b).2]
def xV:SpM:=fun as K=>∃t b:Int,as=[.imm (.int t),.imm (.int b)]/\b≠0/\t.natAbs<10^160/\b.natAbs<10^160/\K (.imm (nf t b)) []
structure FrOk(a b:Int):Prop where
 ha:a.natAbs<10^76
 hb:b.natAbs<10^76
 hp:0<b
def frT(a b:Int):PyData:=.tuple [.int a,.int b]
def AC(f:Int->Int->Int->Int->PyData):SpM:=fun as K=>∃a b c d:Int,as=[.imm (frT a b),.imm (frT c d)]/\FrOk a b/\FrOk c d/\K (.imm (f a b c d)) []
def addF(a b c d:Int):PyData:=nf (a*d+c*b) (b*d)
def subF(a b c d:Int):PyData:=nf (a*d-c*b) (b*d)
def mulF(a b c d:Int):PyData:=nf (a*c) (b*d)
def DN:SpM:=fun as K=>∃a b c d:Int,as=[.imm (frT a b),.imm (frT c d)]/\FrOk a b/\FrOk c d/\c≠0/\K (.imm (nf (a*d) (b*c))) []
theorem fx(ha:a.natAbs<10^76)(hb:b.natAbs<10^76):(a*b).natAbs<10^152:=by
 rw[Int.natAbs_mul];have h:=Nat.mul_lt_mul'' ha hb;exact Nat.lt_of_lt_of_le h (by decide)
theorem pI(h:n<10^152):n<10^160:=Nat.lt_trans h (by decide)
theorem up45(h:n<10^76):n<10^160:=Nat.lt_trans h (by decide)
theorem Jf(ha:a.natAbs<10^152)(hb:b.natAbs<10^152):(a+b).natAbs<10^160:=by
 have h:=Int.natAbs_add_le a b;have:10^152+10^152<10^160:=by decide
 omega
theorem F9(ha:a.natAbs<10^152)(hb:b.natAbs<10^152):(a-b).natAbs<10^160:=by
 have h:=Int.natAbs_sub_le a b;have:10^152+10^152<10^160:=by decide
 omega
theorem v7(ha:0<a)(hb:0<b):a*b≠0:=Int.ne_of_gt (Int.mul_pos ha hb)
def uV:SpM:=AC addF
def Fm:SpM:=AC subF
def yx:SpM:=AC mulF
section
variable {α:Type} [deq:DecidableEq α]
def addA(a:α)(x:Int):List (α×Int)->List (α×Int)
 |[]=>[(a,x)]
 |p::r=>if p.1=a then(p.1,p.2+x)::r else p::addA a x r
def getA(a:α):List (α×Int)->Int
 |[]=>0
 |p::r=>if p.1=a then p.2 else getA a r
def kvA(enc:α->PyData)(L:List (α×Int)):List (PyData×PyData):=L.map fun p=>(enc p.1,.int p.2)
theorem j9{enc:α->PyData}(he:∀a b,PyData.eqv (enc a) (enc b)=decide (a=b))(a:α):∀L:List (α×Int),(cc (enc a) (kvA enc L)).getD (.int 0) = .int (getA a L)
 |[]=>rfl
 |p::r=>by
  show(if PyData.eqv (enc p.1) (enc a)=true then some (PyData.int p.2)else cc (enc a) (kvA enc r)).getD (.int 0) = .int (if p.1=a then p.2 else getA a r);rw[he]
  by_cases c:p.1=a
  .rw[if_pos c,if_pos (decide_eq_true c)];rfl
  .rw[if_neg c,if_neg (by rw[decide_eq_false c];decide)];exact j9 he a r
theorem vV{enc:α->PyData}(he:∀a b,PyData.eqv (enc a) (enc b)=decide (a=b))(a:α)(x:Int):∀L:List (α×Int),putP (enc a) (.int (getA a L+x)) (kvA enc L)=kvA enc (addA a x L)
 |[]=>by show [(enc a,PyData.int (0+x))]=_;rw[Int.zero_add];rfl
 |p::r=>by
  show(if PyData.eqv (enc p.1) (enc a)=true then(enc p.1,PyData.int ((if p.1=a then p.2 else getA a r)+x))::kvA enc r else(enc p.1,PyData.int p.2)::putP (enc a) (.int ((if p.1=a then p.2 else getA a r)+x)) (kvA enc r))=kvA enc (if p.1=a then(p.1,p.2+x)::r else p::addA a x r);rw[he]
  by_cases c:p.1=a
  .rw[if_pos c,if_pos c,if_pos (decide_eq_true c)];rfl
  .rw[if_neg c,if_neg c,if_neg (by rw[decide_eq_false c];decide),vV he a x r];rfl
theorem l0(a:α)(x:Int):∀L:List (α×Int),(addA a x L).length≤L.length+1
 |[]=>Nat.le_refl _
 |p::r=>by
  unfold addA;split
  .simp
  .have:=l0 a x r;simp only[List.length_cons]at this⊢;omega
end
abbrev Pt:=List Nat×Nat
def ptD(p:Pt):PyData:=stD p.1 p.2
theorem qY:∀{a b:List Nat},natD a=natD b->a=b
 |[],[],_=>rfl
 |x::a,y::b,h=>by
  simp only[natD,List.map_cons,List.cons.injEq,PyData.int.injEq]at h;rw[show x=y by omega,qY (a:=a) (b:=b) h.2]
 |[],_::_,h=>nomatch h
 |_::_,[],h=>nomatch h
theorem Dt(p:Pt):hkD (ptD p)=true:=by
 have nats:∀l:List Nat,hkA (natD l)=true:=fun l=>by
  induction l with
  |nil=>rfl
  |cons x l ih=>show(hkD (.int (x:Int))&&hkA (natD l))=true;rw[ih];rfl
 show(hkD (lnD p.1)&&(hkD (.int (p.2:Int))&&true))=true;rw[show hkD (lnD p.1)=true from nats p.1];rfl
theorem kG(p q:Pt):PyData.eqv (ptD p) (ptD q)=decide (p=q):=by
 rw[nh _ _ (Dt p) (Dt q)];refine decide_eq_decide.mpr ⟨fun h=>?_,fun h=>by rw[h]⟩;have h':[lnD p.1,PyData.int (p.2:Int)]=[lnD q.1,.int (q.2:Int)]:=by injection h
 simp only[List.cons.injEq,PyData.int.injEq,and_true]at h';have h1:natD p.1=natD q.1:=by have:=h'.1;injection this
 exact Prod.ext (qY h1) (by omega)
instance decWd:DecidableEq Wd:=fun a b=>by cases a<;>cases b<;>first|exact isTrue rfl|exact isFalse (fun h=>nomatch h)
theorem rF(p q:Wd):PyData.eqv (.str p.s) (.str q.s)=decide (p=q):=by cases p<;>cases q<;>decide
def wdD(w:Wd):PyData:=.str w.s
abbrev Ms:=List (Mv×Int)
def msD(M:Ms):List PyData:=M.map fun p=>.tuple [p.1.d,.int p.2]
def goW1(h:Hall)(r:Rule)(p:Pt)(w:Int)(q:Mv×Int)(x:List (Pt×Int)×List (Wd×Int)):List (Pt×Int)×List (Wd×Int) :=
 (addA ((bO h r p.1 p.2 q.1).1,(bO h r p.1 p.2 q.1).2.1) (w*q.2) x.1,addA (bO h r p.1 p.2 q.1).2.2 (w*q.2) x.2)
def goW(h:Hall)(r:Rule)(M:Ms)(x:List (Pt×Int)×List (Wd×Int))(p:Pt×Int):List (Pt×Int)×List (Wd×Int):=M.foldl (fun x q=>goW1 h r p.1 p.2 q x) x
theorem ol{t:Nat}(ho:h.Ok)(S:St h r l t):kyD (stD l t)=true:=by
 have hk:=Dt (l,t);have lay:∀l:List Nat,PyData.canLayAll0 (natD l)=true:=fun l=>by
  have:=jJ (l.map fun(x:Nat)=>(x:Int));rwa[List.map_map]at this
 have dep:∀l:List Nat,PyData.depthAll (natD l)≤1:=fun l=>by
  have:=kW (l.map fun(x:Nat)=>(x:Int));rwa[List.map_map]at this
 unfold kyD;rw[show hkD (stD l t)=true from hk];have c:(stD l t).canLay0=true:=by
  show PyData.canLayAll0 [lnD l,.int (t:Int)]=true;simp only[PyData.canLayAll0,Bool.and_eq_true];exact⟨lay l,rfl,trivial⟩
 rw[c];have d:(stD l t).depth≤7:=by
  show max (PyData.depthAll (natD l)+1) (max (PyData.int (t:Int)).depth 0)+1≤7;have:=dep l;have e:(PyData.int (t:Int)).depth=0:=rfl;rw[e];omega
 rw[decide_eq_true d];rfl
def wtD(W:List (Pt×Int)):PyData:=.dict (kvA ptD W)
theorem xZ(ho:h.Ok)(hW:∀p∈W,St h r p.1.1 p.1.2):kyA (kvA ptD W)=true:=by
 unfold kyA kvA;rw[List.all_map,List.all_eq_true];exact fun p hp=>ol ho (hW p hp)
theorem ld{α:Type}[DecidableEq α]{a:α}{x:Int}:∀{L:List (α×Int)}{p:α×Int},p∈addA a x L->p.1=a\/∃q∈L,q.1=p.1
 |[],p,h=>by rw[List.mem_singleton.mp h];exact .inl rfl
 | q::r,p,h=>by
  unfold addA at h
  split at h
  .rename_i e
   cases h with
   |head=>exact .inl e
   |tail _ h=>exact .inr ⟨p,List.mem_cons_of_mem _ h,rfl⟩
  .cases h with
   |head=>exact .inr ⟨_,List.mem_cons_self,rfl⟩
   |tail _ h =>
    rcases ld h with e|⟨q',h',e⟩
    .exact .inl e
    .exact .inr ⟨q',List.mem_cons_of_mem _ h',e⟩
abbrev Pr:=PyData×Int×Nat
def prsD(L:List Pr):List PyData:=L.map fun p=>.tuple [p.1,.tuple [.int p.2.1,.int (p.2.2:Int)]]
def botL(L:List Pr):Nat:=L.foldl (fun m p=>m.lcm p.2.2) 1
def onB(L:List Pr):List PyData:=L.map fun p=>.tuple [p.1,.int (p.2.1*(((botL L/p.2.2:Nat)):Int))]
theorem xl(L:List Pr)(p:Pr):botL (L++[p])=(botL L).lcm p.2.2:=by
 unfold botL;rw[List.foldl_append];rfl
theorem sg{B:Nat}:∀{L:List Pr},(∀p∈L,p.2.2 ∣ B)->botL L ∣ B:=by
 intro L;have key:∀(L:List Pr) (m:Nat),m ∣ B->(∀p∈L,p.2.2 ∣ B)->L.foldl (fun m p=>m.lcm p.2.2) m ∣ B:=by
  intro L
  induction L with
  |nil=>intro m hm _;exact hm
  |cons p L ih=>intro m hm h;exact ih _ (Nat.lcm_dvd hm (h p List.mem_cons_self)) fun q hq=>h q (List.mem_cons_of_mem _ hq)
 exact fun h=>key L 1 (Nat.one_dvd _) h
theorem yi(h:∀p∈L,1≤p.2.2):1≤botL L:=by
 have key:∀(L:List Pr) (m:Nat),1≤m->(∀p∈L,1≤p.2.2)->1≤L.foldl (fun m p=>m.lcm p.2.2) m:=by
  intro L
  induction L with
  |nil=>intro m hm _;exact hm
  |cons p L ih=>intro m hm h;exact ih _ (Nat.lcm_pos hm (h p List.mem_cons_self)) fun q hq=>h q (List.mem_cons_of_mem _ hq)
 exact key L 1 (Nat.le_refl _) h
structure BtOk(L:List Pr)(B:Nat):Prop where
 n:L.length≤100
 d:∀p∈L,1≤p.2.2/\p.2.2 ∣ B/\p.2.1.natAbs<10^76
 b0:1≤B
 b:B<10^76
def sf:SpM:=fun as K=>∃(L:List Pr) (B:Nat),as=[.imm (.list (prsD L))]/\BtOk L B/\K (.imm (.tuple [.list (onB L),.int (botL L:Int)])) []
theorem BtOk.pre{B:Nat}(h:BtOk L B)(i:Nat):1≤botL (L.take i)/\botL (L.take i)<10^76:=by
 have hm:∀p∈L.take i,p∈L:=fun p hp=>List.mem_of_mem_take hp;refine⟨yi fun p hp=>(h.d p (hm p hp)).1,Nat.lt_of_le_of_lt (Nat.le_of_dvd h.b0 (sg fun p hp=>(h.d p (hm p hp)).2.1)) h.b⟩
theorem BT(m b:Nat)(hb:1≤b):m.lcm b=m*(b/m.gcd b):=by
 unfold Nat.lcm;exact Nat.mul_div_assoc _ (Nat.gcd_dvd_right m b)
def nu:SpM:=fun as K=>∃(t:Int) (b:Nat),as=[.imm (.int t),.imm (.int (b:Int))]/\0<b/\t.natAbs<10^160/\b<10^160/\K (.imm (nf t (b:Int))) []
theorem r9(ha:0<a)(hb:0<b):∃n:Nat,a*b=(n:Int)/\0<n:=by
 have h:=Int.mul_pos ha hb;exact⟨(a*b).toNat,by omega,by omega⟩
theorem f7(hb:0<b):0<(nfP t b).2/\(nfP t b).2≤b/\(nfP t b).1.natAbs≤t.natAbs:=by
 have g1:0<t.natAbs.gcd b.natAbs:=Nat.gcd_pos_of_pos_right _ (by omega);have gb:((t.natAbs.gcd b.natAbs:Nat):Int) ∣ b:=Int.ofNat_dvd_left.mpr (Nat.gcd_dvd_right _ _);have gt:((t.natAbs.gcd b.natAbs:Nat):Int) ∣ t:=Int.ofNat_dvd_left.mpr (Nat.gcd_dvd_left _ _);unfold nfP;rw[if_neg (by omega)];refine⟨Int.ediv_pos_of_pos_of_dvd hb (by omega) gb,Int.ediv_le_self _ (by omega),?_⟩;show(t/((t.natAbs.gcd b.natAbs:Nat):Int)).natAbs≤_;rw[Int.natAbs_ediv_of_dvd gt,Int.natAbs_natCast];exact Nat.div_le_self _ _
def bi(h:Hall):Int×Int:=nfP ((h.a:Int)*1) ((h.b:Int)*((ordK h.ss.length h.ss.length).length:Int))
def restF(h:Hall):Nat->Int×Int
 |0=>nfP (1*(h.b:Int)-(h.a:Int)*1) (1*(h.b:Int))
 |k+1=>match h.ss[k]? with
  |some s=>nfP ((restF h k).1*(s.b:Int)-(s.a:Int)*(restF h k).2) ((restF h k).2*(s.b:Int))
  |none=>restF h k
theorem kg(ho:h.Ok)(hl:0<(ordK h.ss.length h.ss.length).length):FrOk (bi h).1 (bi h).2:=by
 have a2:=ho.a2;have b1:=ho.b1;have b2:=ho.b2;have n:=(ci h.ss.length ho.n4 h.ss.length ho.n4).1;have hb:0<(h.b:Int)*((ordK h.ss.length h.ss.length).length:Int):=Int.mul_pos (by omega) (by omega);obtain⟨e1,e2,e3⟩:=f7 (t:=(h.a:Int)*1) hb;have e4:(h.b:Int)*((ordK h.ss.length h.ss.length).length:Int)≤1000000*24:=Int.mul_le_mul (by omega) (by omega) (by omega) (by omega);unfold bi;exact⟨Nat.lt_of_le_of_lt e3 (by omega),by omega,e1⟩
theorem df{h:Hall}(ho:h.Ok):∀k,k≤h.ss.length->0<(restF h k).2/\(restF h k).2≤1000000^(k+1)/\(restF h k).1.natAbs≤(k+1)*1000000^(k+1)
 |0,_=>by
  have a2:=ho.a2;have b1:=ho.b1;have b2:=ho.b2;obtain⟨e1,e2,e3⟩:=f7 (t:=1*(h.b:Int)-(h.a:Int)*1) (b:=1*(h.b:Int)) (by omega);unfold restF;exact⟨e1,by omega,Nat.le_trans e3 (by omega)⟩
 | k+1,hk=>by
  obtain⟨i1,i2,i3⟩:=df ho k (by omega);have es:h.ss[k]?=some h.ss[k]:=List.getElem?_eq_getElem (by omega);have so:=ho.ok h.ss[k] (List.getElem_mem _);have sa:=so.a2;have sb:=so.b2;have sb1:=so.b1;have hb:0<(restF h k).2*(h.ss[k].b:Int):=Int.mul_pos i1 (by omega);obtain⟨e1,e2,e3⟩:=f7 (t:=(restF h k).1*(h.ss[k].b:Int)-(h.ss[k].a:Int)*(restF h k).2) hb;unfold restF;rw[es];refine⟨e1,Int.le_trans e2 ?_,Nat.le_trans e3 (Nat.le_trans (Int.natAbs_sub_le _ _) ?_)⟩
  .rw[Int.pow_succ];exact Int.mul_le_mul i2 (by omega) (by omega) (by omega)
  .rw[Int.natAbs_mul,Int.natAbs_mul,Int.natAbs_natCast,Int.natAbs_natCast,Nat.pow_succ 1000000 (k+1)];have h1:(restF h k).1.natAbs*h.ss[k].b≤(k+1)*1000000^(k+1)*1000000:=Nat.mul_le_mul i3 (by omega);have h2:h.ss[k].a*(restF h k).2.natAbs≤1000000*1000000^(k+1):=Nat.mul_le_mul (by omega) (by
    have e:((1000000^(k+1):Nat):Int)=(1000000:Int)^(k+1):=by rw[Int.natCast_pow];rfl
    omega)
   rw[Nat.mul_comm 1000000 (1000000^(k+1))]at h2;rw[show(k+1+1)*(1000000^(k+1)*1000000)=(k+1)*1000000^(k+1)*1000000+1000000^(k+1)*1000000 by rw[Nat.add_mul (k+1) 1,Nat.one_mul,Nat.mul_assoc]];omega
theorem oW(ho:h.Ok){k:Nat}(hk:k≤h.ss.length):FrOk (restF h k).1 (restF h k).2:=by
 obtain⟨i1,i2,i3⟩:=df ho k hk;have n4:=ho.n4;have p1:1000000^(k+1)≤1000000^5:=Nat.pow_le_pow_right (by decide) (by omega);have p2:(1000000:Int)^(k+1)=((1000000^(k+1):Nat):Int):=by rw[Int.natCast_pow];rfl
 have p3:(k+1)*1000000^(k+1)≤5*1000000^5:=Nat.mul_le_mul (by omega) p1;have p4:5*1000000^5<10^76:=by decide
 have p5:1000000^5<10^76:=by decide
 refine⟨Nat.lt_of_le_of_lt i3 (Nat.lt_of_le_of_lt p3 p4),?_,i1⟩;rw[p2]at i2;omega
def prF(d:PyData)(p:Int×Int):Pr:=(d,p.1,p.2.toNat)
def yQ(h:Hall)(k:Nat):List Pr:=(h.ss.take k).zipIdx.map fun q=>((Mv.done q.2).d,(q.1.a:Int),q.1.b)
def shrL(h:Hall):List Pr:=(ordK h.ss.length h.ss.length).map (fun o=>prF (Mv.come o).d (bi h))++yQ h h.ss.length++if 0<(restF h h.ss.length).1 then [prF Mv.still.d (restF h h.ss.length)]else []
def rg:SpM:=fun as K=>∃h:Hall,as=[.imm h.d]/\h.Ok/\K (.new (prsD (shrL h))) []
def Ak:SpM:=fun as K=>∃h:Hall,as=[.imm h.d]/\h.Ok/\K (.new ((ordK h.ss.length h.ss.length).map lnD)) []
theorem cI:∀n≤4,0<(ordK n n).length:=by decide +kernel
def gj(h:Hall):List PyData:=(ordK h.ss.length h.ss.length).map fun o=>.tuple [(Mv.come o).d,nf ((h.a:Int)*1) ((h.b:Int)*((ordK h.ss.length h.ss.length).length:Int))]
def ji(h:Hall)(k:Nat):List PyData:=(List.range k).map fun i=>.tuple [(Mv.done i).d,.tuple [.int ((h.ss.getD i ⟨0,0,0⟩).a:Int),.int ((h.ss.getD i ⟨0,0,0⟩).b:Int)]]
def rsD(h:Hall)(k:Nat):PyData:=.tuple [.int (restF h k).1,.int (restF h k).2]
theorem sD(h:Hall)(k:Nat):ji h (k+1)=ji h k++[.tuple [(Mv.done k).d,.tuple [.int ((h.ss.getD k ⟨0,0,0⟩).a:Int),.int ((h.ss.getD k ⟨0,0,0⟩).b:Int)]]]:=by
 unfold ji;rw[List.range_succ,List.map_append];rfl
theorem ud(a b:List Pr):prsD (a++b)=prsD a++prsD b:=by unfold prsD;rw[List.map_append]
theorem J3{d:PyData}{p:Int×Int}(hp:0<p.2):prsD [prF d p]=[.tuple [d,.tuple [.int p.1,.int p.2]]]:=by
 show [PyData.tuple [d,.tuple [.int p.1,.int ((p.2.toNat:Nat):Int)]]]=_;rw[show((p.2.toNat:Nat):Int)=p.2 by omega]
theorem C6(ho:h.Ok):prsD ((ordK h.ss.length h.ss.length).map fun o=>prF (Mv.come o).d (bi h))=gj h:=by
 have hp:=(kg ho (cI h.ss.length ho.n4)).hp;unfold prsD gj;rw[List.map_map];refine List.map_congr_left fun o _=>?_;show PyData.tuple [(Mv.come o).d,.tuple [.int (bi h).1,.int (((bi h).2.toNat:Nat):Int)]]=_;rw[show(((bi h).2.toNat:Nat):Int)=(bi h).2 by omega];rfl
theorem Bu(h:Hall):prsD (yQ h h.ss.length)=ji h h.ss.length:=by
 unfold prsD yQ ji;rw[List.take_length,List.map_map];refine List.ext_getElem? fun i=>?_;rw[List.getElem?_map,List.getElem?_map,List.getElem?_zipIdx]
 by_cases hi:i<h.ss.length
 .rw[List.getElem?_range hi,List.getElem?_eq_getElem hi];have eg:h.ss.getD i ⟨0,0,0⟩=h.ss[i]:=bM (List.getElem?_eq_getElem hi);show some (PyData.tuple [(Mv.done (0+i)).d,.tuple [.int (h.ss[i].a:Int),.int (h.ss[i].b:Int)]])=some (.tuple [(Mv.done i).d,.tuple [.int ((h.ss.getD i ⟨0,0,0⟩).a:Int),.int ((h.ss.getD i ⟨0,0,0⟩).b:Int)]]);rw[eg,Nat.zero_add]
 .rw[List.getElem?_eq_none (by omega),List.getElem?_eq_none (by rw[List.length_range];omega)];rfl
theorem DW(ho:h.Ok):prsD (shrL h)=gj h++ji h h.ss.length++if 0<(restF h h.ss.length).1 then [.tuple [Mv.still.d,rsD h h.ss.length]]else []:=by
 unfold shrL;rw[ud,ud,C6 ho,Bu]
 congr 1
 split
 .exact J3 (df ho h.ss.length (Nat.le_refl _)).1
 .rfl
theorem y7{i:Nat}{s:Srv}(e:h.ss[i]?=some s):rsD h (i+1)=subF (restF h i).1 (restF h i).2 (s.a:Int) (s.b:Int):=by
 unfold rsD;rw[restF,e];rfl
def shrM(h:Hall):List (Mv×Int×Nat):=(ordK h.ss.length h.ss.length).map (fun o=>(Mv.come o,(bi h).1,(bi h).2.toNat))++(h.ss.zipIdx.map fun q=>(Mv.done q.2,(q.1.a:Int),q.1.b))++if 0<(restF h h.ss.length).1 then [(Mv.still,(restF h h.ss.length).1,(restF h h.ss.length).2.toNat)]else []
theorem jH(h:Hall):shrL h=(shrM h).map fun q=>(q.1.d,q.2):=by
 unfold shrL shrM yQ;rw[List.map_append,List.map_append,List.map_map,List.map_map,List.take_length]
 congr 1
 split<;>rfl
def botH(h:Hall):Nat:=botL (shrL h)
def msL(h:Hall):Ms:=(shrM h).map fun q=>(q.1,q.2.1*((botH h/q.2.2:Nat):Int))
theorem Ii(h:Hall):onB (shrL h)=msD (msL h):=by
 unfold onB msD msL botH;rw[jH,List.map_map,List.map_map];rfl
theorem rm:∀n≤4,1≤n->∀o∈ordK n n,o≠[]/\o.length≤4/\∀k∈o,k<n:=by decide +kernel
theorem jt{q:Mv×Int×Nat}(hq:q∈shrM h):(∃o∈ordK h.ss.length h.ss.length,q=(Mv.come o,(bi h).1,(bi h).2.toNat))\/(∃i,∃hi:i<h.ss.length,q=(Mv.done i,(h.ss[i].a:Int),h.ss[i].b))\/q=(Mv.still,(restF h h.ss.length).1,(restF h h.ss.length).2.toNat):=by
 unfold shrM at hq;obtain hq|hq:=List.mem_append.mp hq
 .obtain hq|hq:=List.mem_append.mp hq
  .obtain⟨o,ho,rfl⟩:=List.mem_map.mp hq;exact .inl ⟨o,ho,rfl⟩
  .obtain⟨z,hz,rfl⟩:=List.mem_map.mp hq;obtain⟨i,hi,e⟩:=List.mem_iff_getElem.mp hz;rw[List.length_zipIdx]at hi;refine .inr (.inl ⟨i,hi,?_⟩);rw[List.getElem_zipIdx]at e;rw[<-e];show(Mv.done (0+i),_,_)=_;rw[Nat.zero_add]
 .split at hq
  .exact .inr (.inr (List.mem_singleton.mp hq))
  .cases hq
theorem BX(ho:h.Ok):∀q∈shrM h,q.1.Ok h:=fun q hq=>by
 rcases jt hq with⟨o,hm,rfl⟩|⟨i,hi,rfl⟩|rfl
 .obtain⟨h1,h2,h3⟩:=rm h.ss.length ho.n4 ho.n1 o hm;exact⟨h1,h3,h2⟩
 .exact hi
 .exact trivial
theorem lv(hb:0<b):(nfP t b).2.toNat ∣ b.toNat:=by
 have gb:((t.natAbs.gcd b.natAbs:Nat):Int) ∣ b:=Int.ofNat_dvd_left.mpr (Nat.gcd_dvd_right _ _);obtain⟨c,hc⟩:=gb;have g1:0<t.natAbs.gcd b.natAbs:=Nat.gcd_pos_of_pos_right _ (by omega);unfold nfP;rw[if_neg (by omega)];show(b/((t.natAbs.gcd b.natAbs:Nat):Int)).toNat ∣ b.toNat;generalize hg:t.natAbs.gcd b.natAbs=g at *;have e:b/(g:Int)=c:=by rw[hc];exact Int.mul_ediv_cancel_left _ (by omega)
 have c0:0<c:=by
  rcases Int.lt_trichotomy c 0 with z|z|z
  .have:=Int.mul_neg_of_pos_of_neg (show(0:Int)<(g:Int) by omega) z;omega
  .rw[z,Int.mul_zero]at hc;omega
  .exact z
 rw[e];refine⟨g,?_⟩;have:((c.toNat*g:Nat):Int)=b:=by
  rw[Int.natCast_mul,show((c.toNat:Nat):Int)=c by omega,Int.mul_comm];exact hc.symm
 omega
def bP:List Srv->Nat
 |[]=>1
 |s::r=>s.b*bP r
theorem qm:∀(l:List Srv) (s:Srv),bP (l++[s])=bP l*s.b
 |[],s=>by show s.b*1=1*s.b;omega
 |x::l,s=>by show x.b*bP (l++[s])=x.b*bP l*s.b;rw[qm l s,Nat.mul_assoc]
theorem Ad:∀{l:List Srv}{s:Srv},s∈l->s.b ∣ bP l
 |x::l,s,h=>by
  cases h with
  |head=>exact Nat.dvd_mul_right _ _
  |tail _ h=>exact Nat.dvd_trans (Ad h) (Nat.dvd_mul_left _ _)
theorem zf:∀{l:List Srv},(∀s∈l,s.Ok)->1≤bP l/\bP l≤1000000^l.length
 |[],_=>⟨Nat.le_refl 1,Nat.le_refl 1⟩
 |x::l,h=>by
  obtain⟨h1,h2⟩:=zf (l:=l) fun s hs=>h s (List.mem_cons_of_mem _ hs);have xo:=h x List.mem_cons_self;have b1:=xo.b1;have b2:=xo.b2;refine⟨Nat.mul_pos b1 h1,?_⟩;show x.b*bP l≤1000000^(l.length+1);rw[Nat.pow_succ,Nat.mul_comm];exact Nat.mul_le_mul h2 (by omega)
theorem se{h:Hall}(ho:h.Ok):∀k,k≤h.ss.length->(restF h k).2.toNat ∣ h.b*bP (h.ss.take k)
 |0,_=>by
  have b1:=ho.b1;have:=lv (t:=1*(h.b:Int)-(h.a:Int)*1) (b:=1*(h.b:Int)) (by omega);rw[show(1*(h.b:Int)).toNat=h.b by omega]at this;show(nfP _ _).2.toNat ∣ h.b*1;rw[Nat.mul_one];exact this
 | k+1,hk=>by
  have ih:=se ho k (by omega);have i1:=(df ho k (by omega)).1;have es:h.ss[k]?=some h.ss[k]:=List.getElem?_eq_getElem (by omega);have so:=ho.ok h.ss[k] (List.getElem_mem _);have sb1:=so.b1;have hb:0<(restF h k).2*(h.ss[k].b:Int):=Int.mul_pos i1 (by omega);have d:=lv (t:=(restF h k).1*(h.ss[k].b:Int)-(h.ss[k].a:Int)*(restF h k).2) hb;have e2:((restF h k).2*(h.ss[k].b:Int)).toNat=(restF h k).2.toNat*h.ss[k].b:=by
   rw[Int.toNat_mul (by omega) (by omega)];rfl
  rw[e2]at d;rw[restF,es,List.take_succ,es];show(nfP _ _).2.toNat ∣ h.b*bP (h.ss.take k++[h.ss[k]]);rw[qm,<-Nat.mul_assoc];exact Nat.dvd_trans d (Nat.mul_dvd_mul ih (Nat.dvd_refl _))
theorem gG(ho:h.Ok):BtOk (shrL h) ((ordK h.ss.length h.ss.length).length*(h.b*bP h.ss)):=by
 have n4:=ho.n4;have b1:=ho.b1;have b2:=ho.b2;have a2:=ho.a2;have nO:=(ci h.ss.length ho.n4 h.ss.length ho.n4).1;have pO:=cI h.ss.length ho.n4;obtain⟨p1,p2⟩:=zf ho.ok;have p3:bP h.ss≤1000000^4:=Nat.le_trans p2 (Nat.pow_le_pow_right (by decide) n4);refine⟨?_,?_,Nat.mul_pos pO (Nat.mul_pos b1 p1),?_⟩
 .rw[jH,List.length_map];unfold shrM;rw[List.length_append,List.length_append,List.length_map,List.length_map,List.length_zipIdx]
  split<;>simp only[List.length_cons,List.length_nil]<;>omega
 .intro p hp;rw[jH]at hp;obtain⟨q,hq,rfl⟩:=List.mem_map.mp hp;rcases jt hq with⟨o,hm,rfl⟩|⟨i,hi,rfl⟩|rfl
  .have e:=kg ho pO;have hb:0<(h.b:Int)*((ordK h.ss.length h.ss.length).length:Int):=Int.mul_pos (by omega) (by omega);have d:=lv (t:=(h.a:Int)*1) hb;rw[show((h.b:Int)*((ordK h.ss.length h.ss.length).length:Int)).toNat=h.b*(ordK h.ss.length h.ss.length).length by rw[<-Int.natCast_mul,Int.toNat_natCast]]at d;refine⟨by have:=e.hp;show 1≤(bi h).2.toNat;omega,?_,e.ha⟩;rw[Nat.mul_comm h.b,]at d;exact Nat.dvd_trans d (by rw[<-Nat.mul_assoc];exact Nat.dvd_mul_right _ _)
  .have so:=ho.ok h.ss[i] (List.getElem_mem _);have sa:=so.a2;refine⟨so.b1,Nat.dvd_trans (Ad (List.getElem_mem hi)) (Nat.dvd_trans (Nat.dvd_mul_left _ _) (Nat.dvd_mul_left _ _)),?_⟩;show((h.ss[i].a:Nat):Int).natAbs<10^76;omega
  .have e:=oW ho (k:=h.ss.length) (Nat.le_refl _);have d:=se ho h.ss.length (Nat.le_refl _);rw[List.take_length]at d;exact⟨by have:=e.hp;show 1≤(restF h h.ss.length).2.toNat;omega,Nat.dvd_trans d (Nat.dvd_mul_left _ _),e.ha⟩
 .have m1:h.b*bP h.ss≤1000000*1000000^4:=Nat.mul_le_mul (by omega) p3;have m2:(ordK h.ss.length h.ss.length).length*(h.b*bP h.ss)≤24*(1000000*1000000^4):=Nat.mul_le_mul nO m1;exact Nat.lt_of_le_of_lt m2 (by decide)
theorem zt(ho:h.Ok):(msL h).length≤29/\∀q∈msL h,q.1.Ok h/\q.2.natAbs<10^160:=by
 have n4:=ho.n4;have nO:=(ci h.ss.length ho.n4 h.ss.length ho.n4).1;have B:=gG ho;have bL:botH h<10^76:=by have:=B.pre (shrL h).length;rw[List.take_length]at this;exact this.2
 constructor
 .unfold msL shrM;rw[List.length_map,List.length_append,List.length_append,List.length_map,List.length_map,List.length_zipIdx]
  split<;>simp only[List.length_cons,List.length_nil]<;>omega
 .intro q hq;obtain⟨z,hz,rfl⟩:=List.mem_map.mp hq;have d:=B.d (z.1.d,z.2) (by rw[jH];exact List.mem_map.mpr ⟨z,hz,rfl⟩);refine⟨BX ho z hz,?_⟩;show(z.2.1*((botH h/z.2.2:Nat):Int)).natAbs<10^160;have e1:(z.2.1).natAbs<10^76:=d.2.2;have e2:(((botH h/z.2.2:Nat):Int)).natAbs<10^76:=by rw[Int.natAbs_natCast];exact Nat.lt_of_le_of_lt (Nat.div_le_self _ _) bL
  exact pI (fx e1 e2)
theorem e8(L:List (Wd×Int)):isKd (kvA wdD L)=true:=by
 unfold kvA;rw[lB,List.all_map];exact List.all_eq_true.mpr fun _ _=>rfl
def oj:SpM:=fun as K=>∃(h:Hall) (r:Rule) (W:List (Pt×Int)),as=[.imm h.d,.imm r.d,.imm (wtD W)]/\h.Ok/\r.Ok h/\(∀p∈W,St h r p.1.1 p.1.2/\p.2.natAbs<10^160)/\W.length≤100000/\K (.imm (.tuple [wtD (W.foldl (goW h r (msL h)) ([],[])).1,.dict (kvA wdD (W.foldl (goW h r (msL h)) ([],[])).2),.int (botH h:Int)])) []
structure GoOk(h:Hall)(r:Rule)(n:Nat)(x:List (Pt×Int)×List (Wd×Int)):Prop where
 st:∀p∈x.1,St h r p.1.1 p.1.2
 n1:x.1.length≤n
 n2:x.2.length≤n
theorem GoOk.next{x:List (Pt×Int)×List (Wd×Int)}(ho:h.Ok)(hr:r.Ok h)(X:GoOk h r n x){p:Pt}(hp:St h r p.1 p.2)(w:Int){q:Mv×Int}(hq:q.1.Ok h):GoOk h r (n+1) (goW1 h r p w q x):=by
 refine⟨fun z hz=>?_,Nat.le_trans (l0 _ _ _) (Nat.add_le_add_right X.n1 1),Nat.le_trans (l0 _ _ _) (Nat.add_le_add_right X.n2 1)⟩;rcases ld hz with e|⟨z',hz',e⟩
 .rw[e];exact l5 ho hr hp hq
 .rw[<-e];exact X.st z' hz'
theorem GoOk.all{h:Hall}{r:Rule}(ho:h.Ok)(hr:r.Ok h){p:Pt}(hp:St h r p.1 p.2)(w:Int):∀{M:Ms}{n:Nat}{x:List (Pt×Int)×List (Wd×Int)},(∀q∈M,q.1.Ok h)->GoOk h r n x->GoOk h r (n+M.length) (M.foldl (fun x q=>goW1 h r p w q x) x)
 |[],_,_,_,X=>X
 |q::M,n,x,hM,X=>by
  have:=GoOk.all ho hr hp w (M:=M) (fun z hz=>hM z (List.mem_cons_of_mem _ hz)) (X.next ho hr hp w (hM q List.mem_cons_self));rw[show n+(q::M).length=n+1+M.length by simp only[List.length_cons];omega];exact this
def stW(h:Hall)(r:Rule):Nat->List (Pt×Int)
 |0=>[((zer h,0),1)]
 |k+1=>((stW h r k).foldl (goW h r (msL h)) ([],[])).1
def wdW(h:Hall)(r:Rule)(k:Nat):List (Wd×Int):=((stW h r k).foldl (goW h r (msL h)) ([],[])).2
def cntW(h:Hall)(r:Rule)(w:Wd):Nat->Int
 |0=>0
 |k+1=>cntW h r w k*(botH h:Int)+getA w (wdW h r k)
def jd(h:Hall)(r:Rule)(k:Nat):Int:=((stW h r k).map fun p=>p.2*(p.1.1.sum:Int)).sum
structure MnOk(h:Hall)(r:Rule)(n:Nat):Prop where
 l:∀k≤n,(stW h r k).length≤100000
 w:∀k≤n,∀p∈stW h r k,p.2.natAbs<10^90
 b:∀k≤n,botH h^k<10^90
 s:∀w,∀k≤n,(cntW h r w k).natAbs<10^90
theorem gc{h:Hall}{r:Rule}(ho:h.Ok)(hr:r.Ok h):∀k,∀p∈stW h r k,St h r p.1.1 p.1.2
 |0,p,hp=>by rw[List.mem_singleton.mp hp];exact ls ho r
 | k+1,p,hp=>by
  have ih:=gc ho hr k;have key:∀(W:List (Pt×Int)) (n:Nat) (x:List (Pt×Int)×List (Wd×Int)),(∀p∈W,St h r p.1.1 p.1.2)->GoOk h r n x->∃n',GoOk h r n' (W.foldl (goW h r (msL h)) x):=by
   intro W
   induction W with
   |nil=>intro n x _ X;exact⟨n,X⟩
   |cons q W ihW =>
    intro n x hW X;exact ihW _ _ (fun z hz=>hW z (List.mem_cons_of_mem _ hz)) (GoOk.all ho hr (hW q List.mem_cons_self) q.2 (fun z hz=>((zt ho).2 z hz).1) X)
  obtain⟨n',X⟩:=key (stW h r k) 0 ([],[]) ih ⟨fun _ hp=>(by cases hp),Nat.le_refl _,Nat.le_refl _⟩;exact X.st p hp
def mnD(h:Hall)(r:Rule)(n:Nat):PyData:=.tuple [nf (jd h r n) (botH h^n:Nat),nf (cntW h r .served n) (botH h^n:Nat),nf (cntW h r .away n) (botH h^n:Nat)]
def uR:SpM:=fun as K=>∃(h:Hall) (r:Rule) (n:Nat),as=[.imm h.d,.imm r.d,.imm (.int (n:Int))]/\h.Ok/\r.Ok h/\MnOk h r n/\n≤100/\K (.imm (mnD h r n)) []
theorem yL{i:Nat}{d:PyData}(e:(dA (kvA ptD W))[i]?=some d):∃pr:Pt×Int,W[i]?=some pr/\d = .tuple [ptD pr.1,.int pr.2]/\i<W.length:=by
 unfold dA kvA at e;rw[List.map_map,List.getElem?_map]at e
 cases q:W[i]? with
 |none=>rw[q]at e;cases e
 |some pr =>
  rw[q]at e;exact⟨pr,rfl,(Option.some.inj e).symm,(List.getElem?_eq_some_iff.mp q).1⟩
theorem yG(W:List (Pt×Int)):(dA (kvA ptD W)).length=W.length:=by
 unfold dA kvA;rw[List.length_map,List.length_map]
theorem rj(l:List Nat):cR (natD l)=some (l.map fun(x:Nat)=>(x:Int)):=by
 have:=cz (l.map fun(x:Nat)=>(x:Int));rwa[List.map_map]at this
theorem qj:∀l:List Nat,(l.map fun(x:Nat)=>(x:Int)).sum=(l.sum:Int)
 |[]=>rfl
 |x::l=>by rw[List.map_cons,List.sum_cons];rw[List.sum_cons,qj l];rfl
theorem ie(ho:h.Ok)(L:Lines h l):l.sum≤24:=by
 have n4:=ho.n4;have key:∀l:List Nat,(∀x∈l,x≤6)->l.sum≤6*l.length:=by
  intro l
  induction l with
  |nil=>intro _;exact Nat.le_refl _
  |cons x l ih =>
   intro hx;have:=ih fun y hy=>hx y (List.mem_cons_of_mem _ hy);have:=hx x List.mem_cons_self;rw[List.sum_cons,List.length_cons];omega
 have:=key l fun x hx=>L.le ho x hx;have:=L.1;omega
theorem mr{α:Type}{f:α->Int}{B:Nat}:∀{L:List α},(∀x∈L,(f x).natAbs≤B)->((L.map f).sum).natAbs≤L.length*B
 |[],_=>Nat.zero_le _
 |x::L,h=>by
  have ih:=mr (f:=f) (L:=L) fun y hy=>h y (List.mem_cons_of_mem _ hy);have h0:=h x List.mem_cons_self;rw[List.map_cons,List.sum_cons,List.length_cons,Nat.add_mul,Nat.one_mul];have:=Int.natAbs_add_le (f x) (L.map f).sum;omega
theorem Bw(ho:h.Ok)(hr:r.Ok h)(M:MnOk h r n):(jd h r n).natAbs<10^160:=by
 have h1:=mr (f:=fun p:Pt×Int=>p.2*(p.1.1.sum:Int)) (B:=10^90*24) (L:=stW h r n) fun p hp=>by
  rw[Int.natAbs_mul,Int.natAbs_natCast];exact Nat.mul_le_mul (Nat.le_of_lt (M.w n (Nat.le_refl _) p hp)) (ie ho (gc ho hr n p hp).ln)
 have h2:(stW h r n).length*(10^90*24)≤100000*(10^90*24):=Nat.mul_le_mul (M.l n (Nat.le_refl _)) (Nat.le_refl _);exact Nat.lt_of_le_of_lt (Nat.le_trans h1 h2) (by decide)
def rQ:SpM:=fun as K=>∃h:Hall,as=[.imm h.d]/\h.Ok/\K (.imm (stD (zer h) 0)) []
def Ab:SpM:=fun as K=>∃n:Nat,as=[.imm (.int (n:Int))]/\n≤4/\K (.new ((ordK n n).map lnD)) []
theorem bW(hb:0<b):(nfP t b).1*b=t*(nfP t b).2:=by
 have gb:((t.natAbs.gcd b.natAbs:Nat):Int) ∣ b:=Int.ofNat_dvd_left.mpr (Nat.gcd_dvd_right _ _);have gt:((t.natAbs.gcd b.natAbs:Nat):Int) ∣ t:=Int.ofNat_dvd_left.mpr (Nat.gcd_dvd_left _ _);have g1:0<t.natAbs.gcd b.natAbs:=Nat.gcd_pos_of_pos_right _ (by omega);unfold nfP;rw[if_neg (by omega)];show t/((t.natAbs.gcd b.natAbs:Nat):Int)*b=t*(b/((t.natAbs.gcd b.natAbs:Nat):Int));generalize t.natAbs.gcd b.natAbs=g at *;obtain⟨x,hx⟩:=gt;obtain⟨y,hy⟩:=gb;have e1:t/(g:Int)=x:=by rw[hx];exact Int.mul_ediv_cancel_left _ (by omega)
 have e2:b/(g:Int)=y:=by rw[hy];exact Int.mul_ediv_cancel_left _ (by omega)
 rw[e1,e2,hx,hy];simp only[Int.mul_comm,Int.mul_left_comm,Int.mul_assoc]
def vF(D:Nat)(n:Int)(d:Nat):Int:=n*((D/d:Nat):Int)
theorem jo{D d:Nat}{n:Int}(hd:d ∣ D)(e:n*b=t*(d:Int)):vF D n d*b=t*(D:Int):=by
 have eD:(D:Int)=(d:Int)*((D/d:Nat):Int):=by rw[<-Int.natCast_mul,Nat.mul_div_cancel' hd]
 unfold vF
 calc n*((D/d:Nat):Int)*b=(n*b)*((D/d:Nat):Int):=by simp only[Int.mul_comm,Int.mul_left_comm,Int.mul_assoc]
  _=t*(D:Int):=by rw[e,eD];simp only[Int.mul_comm,Int.mul_left_comm,Int.mul_assoc]
theorem gI{p:Pr}(hp:p∈L):p.2.2 ∣ botL L:=by
 have keep:∀(L:List Pr) (m:Nat),m ∣ L.foldl (fun m p=>m.lcm p.2.2) m:=by
  intro L
  induction L with
  |nil=>intro m;exact Nat.dvd_refl _
  |cons x L ih=>intro m;exact Nat.dvd_trans (Nat.dvd_lcm_left _ _) (ih _)
 have key:∀(L:List Pr) (m:Nat),p∈L->p.2.2 ∣ L.foldl (fun m p=>m.lcm p.2.2) m:=by
  intro L
  induction L with
  |nil=>intro m h;cases h
  |cons x L ih =>
   intro m h
   cases h with
   |head=>exact Nat.dvd_trans (Nat.dvd_lcm_right _ _) (keep _ _)
   |tail _ h=>exact ih _ h
 exact key L 1 hp
def tT(h:Hall):Nat->Int
 |0=>(h.b:Int)-(h.a:Int)
 |k+1=>match h.ss[k]? with
  |some s=>tT h k*(s.b:Int)-(s.a:Int)*((h.b*bP (h.ss.take k):Nat):Int)
  |none=>tT h k
theorem vH{k:Nat}(hk:k<h.ss.length):bP (h.ss.take (k+1))=bP (h.ss.take k)*h.ss[k].b:=by
 rw[List.take_succ,List.getElem?_eq_getElem hk];exact qm _ _
theorem fZ{h:Hall}(ho:h.Ok):∀k,k≤h.ss.length->(restF h k).1*((h.b*bP (h.ss.take k):Nat):Int)=tT h k*(restF h k).2
 |0,_=>by
  have b1:=ho.b1;have:=bW (t:=1*(h.b:Int)-(h.a:Int)*1) (b:=1*(h.b:Int)) (by omega);rw[restF,tT];show _*((h.b*1:Nat):Int)=_;rw[Nat.mul_one];rw[Int.one_mul,Int.mul_one]at this;rw[Int.one_mul,Int.mul_one];exact this
 | k+1,hk=>by
  have ih:=fZ ho k (by omega);have i1:=(df ho k (by omega)).1;have es:h.ss[k]?=some h.ss[k]:=List.getElem?_eq_getElem (by omega);have so:=ho.ok h.ss[k] (List.getElem_mem _);have sb1:=so.b1;have hb:0<(restF h k).2*(h.ss[k].b:Int):=Int.mul_pos i1 (by omega);have c:=bW (t:=(restF h k).1*(h.ss[k].b:Int)-(h.ss[k].a:Int)*(restF h k).2) hb;rw[restF,tT,es,vH (by omega)];show(nfP _ _).1*_=(tT h k*(h.ss[k].b:Int)-(h.ss[k].a:Int)*_)*(nfP _ _).2;generalize nfP ((restF h k).1*(h.ss[k].b:Int)-(h.ss[k].a:Int)*(restF h k).2) ((restF h k).2*(h.ss[k].b:Int))=z at *;rw[<-Nat.mul_assoc,Int.natCast_mul (h.b*bP (h.ss.take k))];generalize ((h.b*bP (h.ss.take k):Nat):Int)=P at *;generalize (h.ss[k].b:Int)=B at *;generalize (h.ss[k].a:Int)=S at *;generalize (restF h k).1=r1 at *;generalize (restF h k).2=r2 at *;generalize tT h k=T at *;refine Int.eq_of_mul_eq_mul_left (a:=r2) (by omega) ?_
  calc r2*(z.1*(P*B))=P*(z.1*(r2*B)):=by simp only[Int.mul_comm,Int.mul_left_comm,Int.mul_assoc]
   _=P*((r1*B-S*r2)*z.2):=by rw[c]
   _=((r1*P)*B-S*r2*P)*z.2:=by simp only[Int.sub_mul,Int.mul_sub,Int.mul_comm,Int.mul_left_comm,Int.mul_assoc]
   _=((T*r2)*B-S*r2*P)*z.2:=by rw[ih]
   _=r2*((T*B-S*P)*z.2):=by simp only[Int.sub_mul,Int.mul_sub,Int.mul_comm,Int.mul_left_comm,Int.mul_assoc]
def dnS(h:Hall)(D:Nat):Nat->Int
 |0=>0
 |k+1=>match h.ss[k]? with
  |some s=>dnS h D k+vF D (s.a:Int) s.b
  |none=>dnS h D k
theorem iP{h:Hall}(ho:h.Ok){D:Nat}{C:Int}(hC:C*(h.b:Int)=(h.a:Int)*(D:Int))(hD:∀s∈h.ss,s.b ∣ D):∀k,k≤h.ss.length->((D:Int)-C-dnS h D k)*((h.b*bP (h.ss.take k):Nat):Int)=tT h k*(D:Int)
 |0,_=>by
  rw[dnS,tT];show((D:Int)-C-0)*((h.b*1:Nat):Int)=_;rw[Nat.mul_one,Int.sub_zero,Int.sub_mul,Int.sub_mul,hC,Int.mul_comm (D:Int)]
 | k+1,hk=>by
  have ih:=iP ho hC hD k (by omega);have es:h.ss[k]?=some h.ss[k]:=List.getElem?_eq_getElem (by omega);have c:=jo (D:=D) (d:=h.ss[k].b) (n:=(h.ss[k].a:Int)) (t:=(h.ss[k].a:Int)) (b:=(h.ss[k].b:Int)) (hD _ (List.getElem_mem _)) rfl;rw[dnS,tT,es,vH (by omega)];show((D:Int)-C-(dnS h D k+vF D (h.ss[k].a:Int) h.ss[k].b))*_=(tT h k*(h.ss[k].b:Int)-(h.ss[k].a:Int)*_)*(D:Int);rw[<-Nat.mul_assoc,Int.natCast_mul (h.b*bP (h.ss.take k))];generalize vF D (h.ss[k].a:Int) h.ss[k].b=v at *;generalize ((h.b*bP (h.ss.take k):Nat):Int)=P at *;generalize (h.ss[k].b:Int)=B at *;generalize (h.ss[k].a:Int)=S at *;generalize dnS h D k=A at *;generalize tT h k=T at *;generalize (D:Int)=E at *;have e0:(E-C-(A+v))*(P*B)=((E-C-A)*P)*B-(v*B)*P:=by
   rw[show E-C-(A+v)=(E-C-A)-v by omega,Int.sub_mul];simp only[Int.mul_comm,Int.mul_left_comm,Int.mul_assoc]
  calc (E-C-(A+v))*(P*B)=((E-C-A)*P)*B-(v*B)*P:=e0
   _=(T*E)*B-(S*E)*P:=by rw[ih,c]
   _=(T*B-S*P)*E:=by rw[Int.sub_mul];simp only[Int.mul_comm,Int.mul_left_comm,Int.mul_assoc]
theorem FX(h:Hall)(D:Nat):((h.ss.zipIdx.map fun q=>((q.1.a:Int)*((D/q.1.b:Nat):Int))).sum)=dnS h D h.ss.length:=by
 have key:∀k,k≤h.ss.length->(((h.ss.take k).map fun s=>((s.a:Int)*((D/s.b:Nat):Int))).sum)=dnS h D k:=by
  intro k
  induction k with
  |zero=>intro _;rfl
  |succ k ih =>
   intro hk;have es:h.ss[k]?=some h.ss[k]:=List.getElem?_eq_getElem (by omega);rw[dnS,es,List.take_succ,es,List.map_append,List.sum_append,ih (by omega)];simp[vF]
 have e:=key h.ss.length (Nat.le_refl _);rw[List.take_length]at e;rw[<-e]
 congr 1
 refine List.ext_getElem? fun i=>?_;rw[List.getElem?_map,List.getElem?_map,List.getElem?_zipIdx]
 cases h.ss[i]?<;>rfl
theorem jK{α:Type}(c:Int):∀l:List α,(l.map fun _=>c).sum=(l.length:Int)*c
 |[]=>by simp
 |x::l=>by rw[List.map_cons,List.sum_cons,jK c l,List.length_cons];rw[Int.natCast_add,Int.add_mul];simp;omega
theorem rH(ho:h.Ok)(h0:0≤(restF h h.ss.length).1):((msL h).map (·.2)).sum=(botH h:Int):=by
 have b1:=ho.b1;have pO:=cI h.ss.length ho.n4;have B:=gG ho;have bp:1≤botH h:=by have:=B.pre (shrL h).length;rw[List.take_length]at this;exact this.1
 have memC:∀o∈ordK h.ss.length h.ss.length,prF (Mv.come o).d (bi h)∈shrL h:=fun o hm=>by
  unfold shrL;exact List.mem_append.mpr (.inl (List.mem_append.mpr (.inl (List.mem_map.mpr ⟨o,hm,rfl⟩))))
 have dvC:(bi h).2.toNat ∣ botH h:=by
  obtain⟨o,hm⟩:=List.exists_mem_of_length_pos pO;exact gI (memC o hm)
 have hbn:0<(h.b:Int)*((ordK h.ss.length h.ss.length).length:Int):=Int.mul_pos (by omega) (by omega);have eo:=kg ho pO;have eC:vF (botH h) (bi h).1 (bi h).2.toNat*((h.b:Int)*((ordK h.ss.length h.ss.length).length:Int))=(h.a:Int)*1*(botH h:Int):=by
  refine jo dvC ?_;rw[show(((bi h).2.toNat:Nat):Int)=(bi h).2 by have:=eo.hp;omega];exact bW hbn
 have hC:(((ordK h.ss.length h.ss.length).length:Int)*vF (botH h) (bi h).1 (bi h).2.toNat)*(h.b:Int)=(h.a:Int)*(botH h:Int):=by
  rw[Int.mul_one]at eC;rw[<-eC];simp only[Int.mul_comm,Int.mul_left_comm,Int.mul_assoc]
 have hD:∀s∈h.ss,s.b ∣ botH h:=fun s hs=>by
  obtain⟨i,hi,rfl⟩:=List.mem_iff_getElem.mp hs;have:((Mv.done i).d,(h.ss[i].a:Int),h.ss[i].b)∈shrL h:=by
   rw[jH];refine List.mem_map.mpr ⟨(Mv.done i,(h.ss[i].a:Int),h.ss[i].b),?_,rfl⟩;unfold shrM;refine List.mem_append.mpr (.inl (List.mem_append.mpr (.inr (List.mem_map.mpr ⟨(h.ss[i],i),?_,rfl⟩))));exact List.mem_iff_getElem.mpr ⟨i,by rw[List.length_zipIdx];exact hi,by rw[List.getElem_zipIdx,Nat.zero_add]⟩
  exact gI this
 have lc:=iP ho hC hD h.ss.length (Nat.le_refl _);have rc:=fZ ho h.ss.length (Nat.le_refl _);obtain⟨p1,_⟩:=zf ho.ok;rw[List.take_length]at lc rc;have Ppos:0<((h.b*bP h.ss:Nat):Int):=by have:=Nat.mul_pos b1 p1;omega
 have es:((msL h).map (·.2)).sum=((ordK h.ss.length h.ss.length).length:Int)*vF (botH h) (bi h).1 (bi h).2.toNat+dnS h (botH h) h.ss.length+if 0<(restF h h.ss.length).1 then vF (botH h) (restF h h.ss.length).1 (restF h h.ss.length).2.toNat else 0:=by
  unfold msL shrM;rw[List.map_map,List.map_append,List.map_append,List.sum_append,List.sum_append,List.map_map,List.map_map]
  congr 1
  .congr 1
   .exact jK (vF (botH h) (bi h).1 (bi h).2.toNat) (ordK h.ss.length h.ss.length)
   .exact FX h (botH h)
  .split
   .simp[vF]
   .rfl
 rw[es];have rp:=(df ho h.ss.length (Nat.le_refl _)).1
 by_cases c:0<(restF h h.ss.length).1
 .rw[if_pos c];have dvR:(restF h h.ss.length).2.toNat ∣ botH h:=by
   have:prF Mv.still.d (restF h h.ss.length)∈shrL h:=by
    unfold shrL;rw[if_pos c];exact List.mem_append.mpr (.inr (List.mem_singleton.mpr rfl))
   exact gI this
  have eR:=jo (D:=botH h) (n:=(restF h h.ss.length).1) (t:=tT h h.ss.length) (b:=((h.b*bP h.ss:Nat):Int)) dvR (by rw[rc,show(((restF h h.ss.length).2.toNat:Nat):Int)=(restF h h.ss.length).2 by omega]);have:=Int.eq_of_mul_eq_mul_right (a:=((h.b*bP h.ss:Nat):Int)) (by omega) (eR.trans lc.symm);omega
 .rw[if_neg c];have r0:(restF h h.ss.length).1=0:=by omega
  rw[r0,Int.zero_mul]at rc;have t0:tT h h.ss.length=0:=by
   rcases Int.mul_eq_zero.mp rc.symm with z|z
   .exact z
   .omega
  rw[t0,Int.zero_mul]at lc;rcases Int.mul_eq_zero.mp lc with z|z
  .omega
  .omega
def sumA{α:Type}(L:List (α×Int)):Int:=(L.map (·.2)).sum
theorem gJ{α:Type}[DecidableEq α](a:α)(x:Int):∀L:List (α×Int),sumA (addA a x L)=sumA L+x
 |[]=>by show x+0=0+x;omega
 |p::r=>by
  have ih:=gJ a x r;unfold addA;split
  .show p.2+x+sumA r=p.2+sumA r+x;omega
  .show p.2+sumA (addA a x r)=p.2+sumA r+x;omega
theorem jC{α:Type}[DecidableEq α]{a:α}{x:Int}(hx:0≤x):∀{L:List (α×Int)},(∀p∈L,0≤p.2)->∀p∈addA a x L,0≤p.2
 |[],_,p,hp=>by rw[List.mem_singleton.mp hp];exact hx
 | q::r,h,p,hp=>by
  have hq:=h q List.mem_cons_self;unfold addA at hp
  split at hp
  .cases hp with
   |head=>show 0≤q.2+x;omega
   |tail _ hp=>exact h p (List.mem_cons_of_mem _ hp)
  .cases hp with
   |head=>exact hq
   |tail _ hp=>exact jC hx (fun z hz=>h z (List.mem_cons_of_mem _ hz)) p hp
theorem wz{h:Hall}{r:Rule}{p:Pt}{w:Int}:∀{M:Ms}{x:List (Pt×Int)×List (Wd×Int)},sumA (M.foldl (fun x q=>goW1 h r p w q x) x).1=sumA x.1+w*(M.map (·.2)).sum/\sumA (M.foldl (fun x q=>goW1 h r p w q x) x).2=sumA x.2+w*(M.map (·.2)).sum
 |[],x=>by constructor<;>(show sumA _=sumA _+w*0;rw[Int.mul_zero,Int.add_zero];rfl)
 |q::M,x=>by
  obtain⟨i1,i2⟩:=wz (h:=h) (r:=r) (p:=p) (w:=w) (M:=M) (x:=goW1 h r p w q x);rw[List.foldl_cons,i1,i2];unfold goW1;dsimp only;rw[gJ,gJ,List.map_cons,List.sum_cons,Int.mul_add];constructor<;>omega
theorem uT{h:Hall}{r:Rule}:∀{W:List (Pt×Int)}{x:List (Pt×Int)×List (Wd×Int)},sumA (W.foldl (goW h r (msL h)) x).1=sumA x.1+sumA W*((msL h).map (·.2)).sum/\sumA (W.foldl (goW h r (msL h)) x).2=sumA x.2+sumA W*((msL h).map (·.2)).sum
 |[],x=>by constructor<;>(show sumA _=sumA _+0*_;rw[Int.zero_mul,Int.add_zero];rfl)
 |p::W,x=>by
  obtain⟨i1,i2⟩:=uT (h:=h) (r:=r) (W:=W) (x:=goW h r (msL h) x p);obtain⟨j1,j2⟩:=wz (h:=h) (r:=r) (p:=p.1) (w:=p.2) (M:=msL h) (x:=x);rw[List.foldl_cons,i1,i2];rw[show goW h r (msL h) x p=(msL h).foldl (fun x q=>goW1 h r p.1 p.2 q x) x from rfl,j1,j2];rw[show sumA (p::W)=p.2+sumA W from rfl,Int.add_mul];constructor<;>omega
theorem ja{h:Hall}(ho:h.Ok)(h0:0≤(restF h h.ss.length).1)(r:Rule):∀k,sumA (stW h r k)=((botH h^k:Nat):Int)
 |0=>rfl
 |k+1=>by
  rw[stW,uT.1,rH ho h0,ja ho h0 r k,Nat.pow_succ,Int.natCast_mul];show 0+_=_;omega
theorem Fx(ho:h.Ok)(h0:0≤(restF h h.ss.length).1)(r:Rule)(k:Nat):sumA (wdW h r k)=((botH h^(k+1):Nat):Int):=by
 rw[wdW,uT.2,rH ho h0,ja ho h0 r k,Nat.pow_succ,Int.natCast_mul];show 0+_=_;omega
theorem I9(ho:h.Ok)(h0:0≤(restF h h.ss.length).1):∀q∈msL h,0≤q.2:=fun q hq=>by
 obtain⟨z,hz,rfl⟩:=List.mem_map.mp hq;refine Int.mul_nonneg ?_ (Int.natCast_nonneg _);rcases jt hz with⟨o,hm,rfl⟩|⟨i,hi,rfl⟩|rfl
 .show 0≤(bi h).1;unfold bi nfP;have b1:=ho.b1;have pO:=cI h.ss.length ho.n4;have hb:0<(h.b:Int)*((ordK h.ss.length h.ss.length).length:Int):=Int.mul_pos (by omega) (by omega);rw[if_neg (by omega)];exact Int.ediv_nonneg (by omega) (by omega)
 .show 0≤((h.ss[i].a:Nat):Int);omega
 .exact h0
theorem IC{h:Hall}{r:Rule}{M:Ms}(hM:∀q∈M,0≤q.2){p:Pt}{w:Int}(hw:0≤w):∀{N:Ms}{x:List (Pt×Int)×List (Wd×Int)},(∀q∈N,q∈M)->(∀z∈x.1,0≤z.2)/\(∀z∈x.2,0≤z.2)->(∀z∈(N.foldl (fun x q=>goW1 h r p w q x) x).1,0≤z.2)/\∀z∈(N.foldl (fun x q=>goW1 h r p w q x) x).2,0≤z.2
 |[],x,_,hx=>hx
 |q::N,x,hN,hx=>IC hM hw (N:=N) (fun z hz=>hN z (List.mem_cons_of_mem _ hz)) ⟨jC (Int.mul_nonneg hw (hM q (hN q List.mem_cons_self))) hx.1,jC (Int.mul_nonneg hw (hM q (hN q List.mem_cons_self))) hx.2⟩
theorem uo{h:Hall}(ho:h.Ok)(h0:0≤(restF h h.ss.length).1)(r:Rule):∀{W:List (Pt×Int)}{x:List (Pt×Int)×List (Wd×Int)},(∀z∈W,0≤z.2)->(∀z∈x.1,0≤z.2)/\(∀z∈x.2,0≤z.2)->(∀z∈(W.foldl (goW h r (msL h)) x).1,0≤z.2)/\∀z∈(W.foldl (goW h r (msL h)) x).2,0≤z.2
 |[],x,_,hx=>hx
 |p::W,x,hW,hx=>uo ho h0 r (W:=W) (fun z hz=>hW z (List.mem_cons_of_mem _ hz)) (IC (I9 ho h0) (hW p List.mem_cons_self) (fun _ h=>h) hx)
theorem oq{h:Hall}(ho:h.Ok)(h0:0≤(restF h h.ss.length).1)(r:Rule):∀k,∀p∈stW h r k,0≤p.2
 |0,p,hp=>by rw[List.mem_singleton.mp hp];exact Int.one_nonneg
 |k+1,p,hp=>(uo ho h0 r (oq ho h0 r k) ⟨fun _ z=>(by cases z),fun _ z=>(by cases z)⟩).1 p hp
theorem fq{α:Type}:∀{L:List (α×Int)},(∀p∈L,0≤p.2)->0≤sumA L/\∀p∈L,p.2≤sumA L
 |[],_=>⟨Int.le_refl _,fun _ h=>(by cases h)⟩
 |q::L,h=>by
  obtain⟨i1,i2⟩:=fq (L:=L) fun p hp=>h p (List.mem_cons_of_mem _ hp);have hq:=h q List.mem_cons_self;have e:sumA (q::L)=q.2+sumA L:=rfl;rw[e];refine⟨by omega,fun p hp=>?_⟩
  cases hp with
  |head=>omega
  |tail _ hp=>have:=i2 p hp;omega
theorem lz{α:Type}[DecidableEq α](a:α):∀{L:List (α×Int)},(∀p∈L,0≤p.2)->0≤getA a L/\getA a L≤sumA L
 |[],_=>⟨Int.le_refl 0,Int.le_refl 0⟩
 |q::L,h=>by
  have i:=lz a (L:=L) fun p hp=>h p (List.mem_cons_of_mem _ hp);have s:=(fq (L:=L) fun p hp=>h p (List.mem_cons_of_mem _ hp)).1;have hq:=h q List.mem_cons_self;have e:sumA (q::L)=q.2+sumA L:=rfl;rw[e];unfold getA
  split<;>omega
theorem k9{h:Hall}(ho:h.Ok)(h0:0≤(restF h h.ss.length).1)(r:Rule)(w:Wd):∀k,0≤cntW h r w k/\cntW h r w k≤(k:Int)*((botH h^k:Nat):Int)
 |0=>⟨Int.le_refl 0,by show(0:Int)≤0*_;rw[Int.zero_mul];exact Int.le_refl 0⟩
 |k+1=>by
  obtain⟨i1,i2⟩:=k9 ho h0 r w k;have nn:=(uo ho h0 r (oq ho h0 r k) (x:=([],[])) ⟨fun _ z=>(by cases z),fun _ z=>(by cases z)⟩).2;obtain⟨g1,g2⟩:=lz w (L:=wdW h r k) nn;rw[Fx ho h0 r k]at g2;rw[cntW];have b0:(0:Int)≤(botH h:Int):=Int.natCast_nonneg _;have m0:=Int.mul_nonneg i1 b0;have m1:=Int.mul_le_mul_of_nonneg_right i2 b0;refine⟨by omega,?_⟩;have e:(k:Int)*((botH h^k:Nat):Int)*(botH h:Int)=(k:Int)*((botH h^(k+1):Nat):Int):=by rw[Nat.pow_succ,Int.natCast_mul,Int.mul_assoc]
  rw[e]at m1;rw[Int.natCast_add,Int.add_mul];show _≤_+1*_;rw[Int.one_mul];omega
theorem mI{α:Type}[DecidableEq α]{a:α}{x:Int}:∀{L:List (α×Int)},(L.map (·.1)).Nodup->((addA a x L).map (·.1)).Nodup
 |[],_=>by simp[addA]
 | q::r,h=>by
  rw[List.map_cons,List.nodup_cons]at h;unfold addA;split
  .exact List.nodup_cons.mpr ⟨h.1,h.2⟩
  .rename_i ne;refine List.nodup_cons.mpr ⟨fun hm=>?_,mI h.2⟩;obtain⟨z,hz,e⟩:=List.mem_map.mp hm;rcases ld hz with e'|⟨y,hy,e'⟩
   .exact ne (e.symm.trans e')
   .exact h.1 (List.mem_map.mpr ⟨y,hy,e'.trans e⟩)
theorem ve{h:Hall}{r:Rule}:∀{W:List (Pt×Int)}{x:List (Pt×Int)×List (Wd×Int)},(x.1.map (·.1)).Nodup->((W.foldl (goW h r (msL h)) x).1.map (·.1)).Nodup
 |[],x,hx=>hx
 | p::W,x,hx=>by
  have key:∀(M:Ms) (x:List (Pt×Int)×List (Wd×Int)),(x.1.map (·.1)).Nodup->((M.foldl (fun x q=>goW1 h r p.1 p.2 q x) x).1.map (·.1)).Nodup:=by
   intro M
   induction M with
   |nil=>intro x hx;exact hx
   |cons q M ih=>intro x hx;exact ih _ (mI hx)
  exact ve (W:=W) (key (msL h) x hx)
theorem pq:∀k,((stW h r k).map (·.1)).Nodup
 |0=>by simp[stW]
 |k+1=>ve (by simp)
theorem nv{α:Type}[DecidableEq α]:∀{l m:List α},l.Nodup->(∀x∈l,x∈m)->l.length≤m.length
 |[],_,_,_=>Nat.zero_le _
 | a::l,m,h,hs=>by
  rw[List.nodup_cons]at h;have ha:=hs a List.mem_cons_self;have ih:=nv (l:=l) (m:=m.erase a) h.2 fun x hx=>by
   have hne:x≠a:=fun z=>h.1 (z▸hx);exact(List.mem_erase_of_ne hne).mpr (hs x (List.mem_cons_of_mem _ hx))
  have:=List.length_erase_of_mem ha;have:=List.length_pos_of_mem ha;rw[List.length_cons];omega
theorem rb:∀{rs l:List Nat},M7.Fits rs l->l∈M3.allR rs
 |[],[],_=>List.mem_singleton.mpr rfl
 |r::rs,x::l,h=>by
  have h1:x≤r:=h.1;exact List.mem_flatMap.mpr ⟨x,List.mem_range.mpr (by omega),List.mem_map.mpr ⟨l,rb h.2,rfl⟩⟩
 |[],_::_,h=>h.elim
 |_::_,[],h=>h.elim
theorem qP(ho:h.Ok)(hr:r.Ok h)(k:Nat):(stW h r k).length≤100000:=by
 have sm:=ip (rs:=h.rs) (by rw[h.rsl];exact ho.n4) ho.r6;have sub:∀p∈(stW h r k).map (·.1),p∈(M3.allR h.rs).flatMap fun l=>[(l,0),(l,1),(l,2),(l,3)]:=fun p hp=>by
  obtain⟨z,hz,rfl⟩:=List.mem_map.mp hp;have S:=gc ho hr k z hz;refine List.mem_flatMap.mpr ⟨z.1.1,rb S.ln.fits,?_⟩;have ts:=S.ts;obtain⟨⟨l,t⟩,w⟩:=z;dsimp only at ts⊢;have:t=0\/t=1\/t=2\/t=3:=by omega
  rcases this with e|e|e|e<;>rw[e]<;>simp
 have le:=nv (pq k) sub;rw[List.length_map,List.length_flatMap]at le;have e:∀L:List (List Nat),((L.map fun l=>[(l,0),(l,1),(l,2),(l,(3:Nat))].length)).sum=4*L.length:=by
  intro L
  induction L with
  |nil=>rfl
  |cons x L ih =>
   show 4+((L.map fun l=>[(l,0),(l,1),(l,2),(l,(3:Nat))].length)).sum=4*(L.length+1);rw[ih];omega
 rw[e]at le;omega
theorem JL(ho:h.Ok)(hr:r.Ok h)(h0:0≤(restF h h.ss.length).1)(hn:n≤100)(hb:botH h^n<10^76):MnOk h r n:=by
 have bp:1≤botH h:=by have:=(gG ho).pre (shrL h).length;rw[List.take_length]at this;exact this.1
 have pw:∀k≤n,botH h^k<10^76:=fun k hk=>Nat.lt_of_le_of_lt (Nat.pow_le_pow_right bp hk) hb;have up:∀{z:Nat},z<10^76->z<10^90:=fun hz=>Nat.lt_trans hz (by decide);refine⟨fun k _=>qP ho hr k,fun k hk p hp=>?_,fun k hk=>up (pw k hk),fun w k hk=>?_⟩
 .have nn:=oq ho h0 r k;have l1:=(fq nn).2 p hp;have l2:=nn p hp;rw[ja ho h0 r k]at l1;have:=pw k hk;refine up ?_;omega
 .obtain⟨c1,c2⟩:=k9 ho h0 r w k;have p1:=pw k hk;have m1:(k:Int)*((botH h^k:Nat):Int)≤100*((10^76:Nat):Int):=Int.mul_le_mul (by omega) (by omega) (Int.natCast_nonneg _) (by omega);have m2:((100*10^76:Nat):Int)=100*((10^76:Nat):Int):=by rw[Int.natCast_mul];rfl
  have m3:100*10^76<10^90:=by decide
  refine Nat.lt_of_le_of_lt (m:=100*10^76) ?_ m3;omega
theorem mj(hb:0<b):Nat.Coprime (nfP t b).1.natAbs (nfP t b).2.natAbs:=by
 have g1:0<t.natAbs.gcd b.natAbs:=Nat.gcd_pos_of_pos_right _ (by omega);have gb:((t.natAbs.gcd b.natAbs:Nat):Int) ∣ b:=Int.ofNat_dvd_left.mpr (Nat.gcd_dvd_right _ _);have gt:((t.natAbs.gcd b.natAbs:Nat):Int) ∣ t:=Int.ofNat_dvd_left.mpr (Nat.gcd_dvd_left _ _);unfold nfP;rw[if_neg (by omega)];show Nat.Coprime (t/((t.natAbs.gcd b.natAbs:Nat):Int)).natAbs (b/((t.natAbs.gcd b.natAbs:Nat):Int)).natAbs;rw[Int.natAbs_ediv_of_dvd gt,Int.natAbs_ediv_of_dvd gb,Int.natAbs_natCast];exact Nat.coprime_div_gcd_div_gcd g1
theorem pV{p q:Int}(c:Nat.Coprime p.natAbs q.natAbs)(e:p*b=a*q):q.natAbs ∣ b.natAbs:=by
 have e':p.natAbs*b.natAbs=a.natAbs*q.natAbs:=by rw[<-Int.natAbs_mul,<-Int.natAbs_mul,e]
 have:q.natAbs ∣ b.natAbs*p.natAbs:=by rw[Nat.mul_comm,e'];exact Nat.dvd_mul_left _ _
 exact Nat.Coprime.dvd_of_dvd_mul_right c.symm this
theorem Jd{p q p' q':Int}(hq:0<q)(hq':0<q')(c:Nat.Coprime p.natAbs q.natAbs)(c':Nat.Coprime p'.natAbs q'.natAbs)(e:p*q'=p'*q):(p,q)=(p',q'):=by
 have d1:=pV c e;have d2:=pV c' e.symm;have eq:q=q':=by
  have:=Nat.dvd_antisymm d1 d2;omega
 subst eq;rw[Int.eq_of_mul_eq_mul_right (by omega) e]
theorem fE{t' b':Int}(hb:0<b)(hb':0<b')(e:t*b'=t'*b):nfP t b=nfP t' b':=by
 refine Jd (f7 hb).1 (f7 hb').1 (mj hb) (mj hb') ?_;have e1:=bW (t:=t) hb;have e2:=bW (t:=t') hb';have hbb:b*b'≠0:=v7 hb hb';refine Int.eq_of_mul_eq_mul_right hbb ?_
 calc (nfP t b).1*(nfP t' b').2*(b*b')=((nfP t b).1*b)*((nfP t' b').2*b'):=by simp only[Int.mul_comm,Int.mul_left_comm,Int.mul_assoc]
  _=t*b'*((nfP t b).2*(nfP t' b').2):=by rw[e1];simp only[Int.mul_comm,Int.mul_left_comm,Int.mul_assoc]
  _=(t'*(nfP t' b').2)*((nfP t b).2*b):=by rw[e];simp only[Int.mul_comm,Int.mul_left_comm,Int.mul_assoc]
  _=(nfP t' b').1*(nfP t b).2*(b*b'):=by rw[<-e2];simp only[Int.mul_comm,Int.mul_left_comm,Int.mul_assoc]
theorem lL{w:Int}(hD:0<D):nfP ((nfP v D).1*(nfP w D).2+(nfP w D).1*(nfP v D).2) ((nfP v D).2*(nfP w D).2)=nfP (v+w) D:=by
 have e1:=bW (t:=v) hD;have e2:=bW (t:=w) hD;refine fE (Int.mul_pos (f7 hD).1 (f7 hD).1) hD ?_;rw[Int.add_mul,Int.add_mul]
 congr 1
 .calc (nfP v D).1*(nfP w D).2*D=((nfP v D).1*D)*(nfP w D).2:=by simp only[Int.mul_comm,Int.mul_left_comm,Int.mul_assoc]
   _=v*((nfP v D).2*(nfP w D).2):=by rw[e1,Int.mul_assoc]
 .calc (nfP w D).1*(nfP v D).2*D=((nfP w D).1*D)*(nfP v D).2:=by simp only[Int.mul_comm,Int.mul_left_comm,Int.mul_assoc]
   _=w*((nfP v D).2*(nfP w D).2):=by rw[e2];simp only[Int.mul_comm,Int.mul_left_comm,Int.mul_assoc]
theorem vw{k:Int}(hD:0<D)(hb:0<b)(hk:0<k):nfP ((nfP v D).1*a) ((nfP v D).2*b)=nfP (v*(a*k)) (D*(b*k)):=by
 have e1:=bW (t:=v) hD;refine fE (Int.mul_pos (f7 hD).1 hb) (Int.mul_pos hD (Int.mul_pos hb hk)) ?_
 calc (nfP v D).1*a*(D*(b*k))=((nfP v D).1*D)*(a*b*k):=by simp only[Int.mul_comm,Int.mul_left_comm,Int.mul_assoc]
  _=v*(a*k)*((nfP v D).2*b):=by rw[e1];simp only[Int.mul_comm,Int.mul_left_comm,Int.mul_assoc]
theorem Ip{k:Int}(hD:0<D)(hk:0<k):nfP v D=nfP (v*k) (D*k):=fE hD (Int.mul_pos hD hk) (by simp only[Int.mul_comm,Int.mul_left_comm,Int.mul_assoc])
theorem my(hD:0<D):nfP 0 D=(0,1):=by
 unfold nfP;rw[if_neg (by omega),show((0:Int).natAbs)=0 from rfl,Nat.gcd_zero_left,Int.zero_ediv,show((D.natAbs:Nat):Int)=D by omega,Int.ediv_self (by omega)]
theorem nq(hD:0<D)(h1:v.natAbs<10^76)(h2:D.natAbs<10^76):FrOk (nfP v D).1 (nfP v D).2:=by
 obtain⟨e1,e2,e3⟩:=f7 (t:=v) hD;exact⟨Nat.lt_of_le_of_lt e3 h1,by omega,e1⟩
theorem dL(v D:Int):nf v D=frT (nfP v D).1 (nfP v D).2:=rfl
section
variable {α:Type} [deq:DecidableEq α]
def kvG(enc:α->PyData)(f:Int->PyData)(L:List (α×Int)):List (PyData×PyData):=L.map fun p=>(enc p.1,f p.2)
theorem uB{enc:α->PyData}{f:Int->PyData}(he:∀a b,PyData.eqv (enc a) (enc b)=decide (a=b))(a:α):∀L:List (α×Int),(cc (enc a) (kvG enc f L)).getD (f 0)=f (getA a L)
 |[]=>rfl
 |p::r=>by
  show(if PyData.eqv (enc p.1) (enc a)=true then some (f p.2)else cc (enc a) (kvG enc f r)).getD (f 0)=f (if p.1=a then p.2 else getA a r);rw[he]
  by_cases c:p.1=a
  .rw[if_pos c,if_pos (decide_eq_true c)];rfl
  .rw[if_neg c,if_neg (by rw[decide_eq_false c];decide)];exact uB he a r
theorem zM{enc:α->PyData}{f:Int->PyData}(he:∀a b,PyData.eqv (enc a) (enc b)=decide (a=b))(a:α)(x:Int):∀L:List (α×Int),putP (enc a) (f (getA a L+x)) (kvG enc f L)=kvG enc f (addA a x L)
 |[]=>by show [(enc a,f (0+x))]=_;rw[Int.zero_add];rfl
 |p::r=>by
  show(if PyData.eqv (enc p.1) (enc a)=true then(enc p.1,f ((if p.1=a then p.2 else getA a r)+x))::kvG enc f r else(enc p.1,f p.2)::putP (enc a) (f ((if p.1=a then p.2 else getA a r)+x)) (kvG enc f r))=kvG enc f (if p.1=a then(p.1,p.2+x)::r else p::addA a x r);rw[he]
  by_cases c:p.1=a
  .rw[if_pos c,if_pos c,if_pos (decide_eq_true c)];rfl
  .rw[if_neg c,if_neg c,if_neg (by rw[decide_eq_false c];decide),zM he a x r];rfl
theorem lV{enc:α->PyData}{f:Int->PyData}(he:∀a b,PyData.eqv (enc a) (enc b)=decide (a=b)):∀{L:List (α×Int)}{i:Nat}{p:α×Int},(L.map (·.1)).Nodup->L[i]?=some p->cc (enc p.1) (kvG enc f L)=some (f p.2)
 |[],i,p,_,e=>by cases e
 | q::r,i,p,nd,e=>by
  rw[List.map_cons,List.nodup_cons]at nd;show(if PyData.eqv (enc q.1) (enc p.1)=true then some (f q.2)else cc (enc p.1) (kvG enc f r))=some (f p.2);rw[he]
  cases i with
  |zero =>
   have:q=p:=Option.some.inj e;rw[this,if_pos (decide_eq_true rfl)]
  |succ i =>
   have e':r[i]?=some p:=e;have:¬q.1=p.1:=fun z=>nd.1 (z▸List.mem_map.mpr ⟨p,List.mem_of_getElem? e',rfl⟩);rw[if_neg (by rw[decide_eq_false this];decide)];exact lV he nd.2 e'
end
def frV(D:Int)(v:Int):PyData:=nf v D
def shD(D:Int)(W:List (Pt×Int)):List (PyData×PyData):=kvG ptD (frV D) W
structure OfS(h:Hall)(S:Nat):Prop where
 s1:1≤S
 s2:S≤9700
 hb:h.b ∣ S
 hs:∀s∈h.ss,s.b ∣ S
 le:(h.a:Int)*((S/h.b:Nat):Int)+dnS h S h.ss.length≤(S:Int)
theorem OfS.lf(ho:h.Ok)(O:OfS h S):((S:Int)-(h.a:Int)*((S/h.b:Nat):Int)-dnS h S h.ss.length)*((h.b*bP h.ss:Nat):Int)=tT h h.ss.length*(S:Int):=by
 have hC:((h.a:Int)*((S/h.b:Nat):Int))*(h.b:Int)=(h.a:Int)*(S:Int):=by
  rw[Int.mul_assoc,<-Int.natCast_mul,Nat.div_mul_cancel O.hb]
 have:=iP ho hC O.hs h.ss.length (Nat.le_refl _);rwa[List.take_length]at this
theorem OfS.bp(ho:h.Ok)(O:OfS h S):0<((h.b*bP h.ss:Nat):Int):=by
 have b1:=ho.b1;have:=Nat.mul_pos (show 0<h.b by omega) (show 0<bP h.ss from(zf ho.ok).1);omega
theorem OfS.rest(ho:h.Ok)(O:OfS h S):0≤(restF h h.ss.length).1:=by
 have e1:=O.lf ho;have e2:=fZ ho h.ss.length (Nat.le_refl _);rw[List.take_length]at e2;have p1:=O.bp ho;have s1:=O.s1;have le:=O.le;have r2:=(df ho h.ss.length (Nat.le_refl _)).1;have t0:0≤tT h h.ss.length:=by
  have q:0≤tT h h.ss.length*(S:Int):=by rw[<-e1];exact Int.mul_nonneg (by omega) (by omega)
  exact Int.nonneg_of_mul_nonneg_left q (by omega)
 have q:0≤(restF h h.ss.length).1*((h.b*bP h.ss:Nat):Int):=by rw[e2];exact Int.mul_nonneg t0 (by omega)
 exact Int.nonneg_of_mul_nonneg_left q p1
theorem vt(ho:h.Ok):∀k,k≤h.ss.length->Nat.Coprime (restF h k).1.natAbs (restF h k).2.natAbs
 |0,_=>by
  have b1:=ho.b1;exact mj (by omega)
 |k+1,hk=>by
  have i1:=(df ho k (by omega)).1;have es:h.ss[k]?=some h.ss[k]:=List.getElem?_eq_getElem (by omega);have sb1:=(ho.ok h.ss[k] (List.getElem_mem _)).b1;rw[restF,es];exact mj (Int.mul_pos i1 (by omega))
theorem OfS.restd(ho:h.Ok)(O:OfS h S):(restF h h.ss.length).2.toNat ∣ S:=by
 have e1:=O.lf ho;have e2:=fZ ho h.ss.length (Nat.le_refl _);rw[List.take_length]at e2;have p1:=O.bp ho;have r2:=(df ho h.ss.length (Nat.le_refl _)).1;have c:=vt ho h.ss.length (Nat.le_refl _);generalize hX:(S:Int)-(h.a:Int)*((S/h.b:Nat):Int)-dnS h S h.ss.length=X at e1;have e:(restF h h.ss.length).1*(S:Int)=X*(restF h h.ss.length).2:=by
  refine Int.eq_of_mul_eq_mul_right (a:=((h.b*bP h.ss:Nat):Int)) (by omega) ?_
  calc (restF h h.ss.length).1*(S:Int)*((h.b*bP h.ss:Nat):Int)=((restF h h.ss.length).1*((h.b*bP h.ss:Nat):Int))*(S:Int):=by simp only[Int.mul_comm,Int.mul_left_comm,Int.mul_assoc]
   _=(tT h h.ss.length*(S:Int))*(restF h h.ss.length).2:=by rw[e2];simp only[Int.mul_comm,Int.mul_left_comm,Int.mul_assoc]
   _=X*(restF h h.ss.length).2*((h.b*bP h.ss:Nat):Int):=by rw[<-e1];simp only[Int.mul_comm,Int.mul_left_comm,Int.mul_assoc]
 have:=pV c e;rw[Int.natAbs_natCast]at this;rwa[show(restF h h.ss.length).2.toNat=(restF h h.ss.length).2.natAbs by omega]
theorem OfS.bot(ho:h.Ok)(O:OfS h S):botH h ∣ (ordK h.ss.length h.ss.length).length*S:=by
 have b1:=ho.b1;have pO:=cI h.ss.length ho.n4;refine sg fun p hp=>?_;rw[jH]at hp;obtain⟨q,hq,rfl⟩:=List.mem_map.mp hp;rcases jt hq with⟨o,hm,rfl⟩|⟨i,hi,rfl⟩|rfl
 .have d:=lv (t:=(h.a:Int)*1) (b:=(h.b:Int)*((ordK h.ss.length h.ss.length).length:Int)) (Int.mul_pos (by omega) (by omega));rw[show((h.b:Int)*((ordK h.ss.length h.ss.length).length:Int)).toNat=h.b*(ordK h.ss.length h.ss.length).length by rw[<-Int.natCast_mul,Int.toNat_natCast]]at d;refine Nat.dvd_trans d ?_;rw[Nat.mul_comm];exact Nat.mul_dvd_mul (Nat.dvd_refl _) O.hb
 .exact Nat.dvd_trans (O.hs _ (List.getElem_mem hi)) (Nat.dvd_mul_left _ _)
 .exact Nat.dvd_trans (O.restd ho) (Nat.dvd_mul_left _ _)
theorem l4(ho:h.Ok):1≤botH h:=by have:=(gG ho).pre (shrL h).length;rw[List.take_length]at this;exact this.1
theorem OfS.small(ho:h.Ok)(O:OfS h S):botH h≤232800:=by
 have pO:=cI h.ss.length ho.n4;have nO:=(ci h.ss.length ho.n4 h.ss.length ho.n4).1;have:=Nat.le_of_dvd (Nat.mul_pos pO O.s1) (O.bot ho);have m:=Nat.mul_le_mul nO O.s2;omega
theorem OfS.pow(ho:h.Ok)(O:OfS h S)(hn:n≤12):botH h^n<10^66:=by
 have h1:botH h^n≤232800^n:=Nat.pow_le_pow_left (O.small ho) n;have h2:232800^n≤232800^12:=Nat.pow_le_pow_right (by decide) hn;have h3:232800^12<10^66:=by decide
 omega
def srvS(S q r:Nat):Srv:=Ig (cutN S q) r
def uk(S p0:Nat)(qs rs:List Nat)(mv:Bool):Hall:=⟨(cutN S p0).1,(cutN S p0).2,List.zipWith (srvS S) qs rs,mv⟩
theorem dJ(hS:1≤S):(cutN S q).2 ∣ S/\(cutN S q).1*(S/(cutN S q).2)=q:=by
 unfold cutN;have g1:q.gcd S ∣ S:=Nat.gcd_dvd_right _ _;refine⟨Nat.div_dvd_of_dvd g1,?_⟩;show q/q.gcd S*(S/(S/q.gcd S))=q;rw[Nat.div_div_self g1 (by omega)];exact Nat.div_mul_cancel (Nat.gcd_dvd_left _ _)
theorem qH{S p0:Nat}{qs rs:List Nat}{mv:Bool}(hS:1≤S)(hl:qs.length=rs.length):∀k,k≤qs.length->dnS (uk S p0 qs rs mv) S k=((qs.take k).sum:Int)
 |0,_=>rfl
 |k+1,hk=>by
  have ih:=qH (p0:=p0) (mv:=mv) hS hl k (by omega);have e1:qs[k]?=some qs[k]:=List.getElem?_eq_getElem (by omega);have e2:rs[k]?=some rs[k]:=List.getElem?_eq_getElem (by omega);have es:(uk S p0 qs rs mv).ss[k]?=some (srvS S qs[k] rs[k]):=List.getElem?_zipWith_eq_some.mpr ⟨_,_,e1,e2,rfl⟩;rw[dnS,es,ih,List.take_add_one,e1,List.sum_append];show _+((cutN S qs[k]).1:Int)*((S/(cutN S qs[k]).2:Nat):Int)=_;rw[<-Int.natCast_mul,(dJ hS).2,Int.natCast_add];rfl
theorem yC{p0:Nat}{qs rs:List Nat}{mv:Bool}(s1:1≤S)(s2:S≤9700)(hl:qs.length=rs.length)(hs:p0+qs.sum≤S):OfS (uk S p0 qs rs mv) S:=by
 have el:(uk S p0 qs rs mv).ss.length=qs.length:=by show(List.zipWith (srvS S) qs rs).length=_;rw[List.length_zipWith];omega
 refine⟨s1,s2,(dJ s1).1,fun s hs=>?_,?_⟩
 .obtain⟨i,hi⟩:=List.getElem?_of_mem hs;obtain⟨q,r,_,_,rfl⟩:=List.getElem?_zipWith_eq_some.mp hi;exact(dJ s1).1
 .rw[el,qH s1 hl _ (Nat.le_refl _),List.take_length];show((cutN S p0).1:Int)*((S/(cutN S p0).2:Nat):Int)+_≤_;rw[<-Int.natCast_mul,(dJ s1).2];omega
theorem IA(hS:1≤S):nf (q:Int) (S:Int)=prD (cutN S q):=by
 have g1:0<q.gcd S:=Nat.gcd_pos_of_pos_right _ (by omega);unfold nf nfP;rw[if_neg (by omega),Int.natAbs_natCast,Int.natAbs_natCast];show PyData.tuple [.int ((q:Int)/((q.gcd S:Nat):Int)),.int ((S:Int)/((q.gcd S:Nat):Int))] = .tuple [.int ((q/q.gcd S:Nat):Int),.int ((S/q.gcd S:Nat):Int)];rw[Int.natCast_ediv,Int.natCast_ediv]
theorem IG{p:Nat}(hS:1≤S):((cutN S p).1*(cutN S q).2<(cutN S q).1*(cutN S p).2)↔p<q:=by
 have h1:=dJ (q:=p) hS;have h2:=dJ (q:=q) hS;have d1:0<(cutN S p).2:=Nat.pos_of_dvd_of_pos h1.1 (by omega);have d2:0<(cutN S q).2:=Nat.pos_of_dvd_of_pos h2.1 (by omega);have e1:(cutN S p).1*S=p*(cutN S p).2:=by
  have z:=congrArg (· * (cutN S p).2) h1.2;rwa[Nat.mul_assoc,Nat.div_mul_cancel h1.1]at z
 have e2:(cutN S q).1*S=q*(cutN S q).2:=by
  have z:=congrArg (· * (cutN S q).2) h2.2;rwa[Nat.mul_assoc,Nat.div_mul_cancel h2.1]at z
 have key:∀a b:Nat,a<b↔a*S<b*S:=fun a b=>(Nat.mul_lt_mul_right (by omega)).symm;rw[key];rw[show(cutN S p).1*(cutN S q).2*S=p*((cutN S p).2*(cutN S q).2) by rw[Nat.mul_right_comm,e1,Nat.mul_assoc],show(cutN S q).1*(cutN S p).2*S=q*((cutN S p).2*(cutN S q).2) by rw[Nat.mul_right_comm,e2,Nat.mul_assoc,Nat.mul_comm (cutN S q).2]];exact Nat.mul_lt_mul_right (Nat.mul_pos d1 d2)
theorem kI:∀{l:List Nat}{n q:Nat},n=l.length->(∀x∈l,q≤x)->(List.replicate n q).sum≤l.sum
 |[],n,q,h,_=>by subst h;exact Nat.le_refl _
 |x::l,n,q,h,hm=>by
  subst h;have ih:=kI (l:=l) (n:=l.length) (q:=q) rfl fun y hy=>hm y (List.mem_cons_of_mem _ hy);have:=hm x List.mem_cons_self;rw[List.length_cons,List.replicate_succ,List.sum_cons,List.sum_cons];omega
def qC:SpM:=fun as K=>∃(fd:List PyData) (c n:Nat),as=[.own fd,.imm (.int (n:Int))]/\TapeD c fd/\c<900000000/\n≤4/\∀(ps:List Nat) (S:Nat) (fd':List PyData),ps.length=n+1->(∀p∈ps,1≤p/\p≤1600)->1≤S->S≤9700->ps.sum≤S->TapeD (c+10) fd'->K (.new ((ps.map (cutN S)).map prD)) [fd']
def vP:SpM:=fun as K=>∃(fd:List PyData) (c:Nat) (ms:List (List Nat)),as=[.own fd,.imm (.list (ms.map lnD))]/\zG ms/\TapeD c fd/\c<800000000/\∀(h:Hall) (S:Nat) (fd':List PyData),h.Ok->OfS h S->TapeD (c+20) fd'->K (.imm h.d) [fd']
theorem iu:∀{l:List Nat}{i x y:Nat},l[i]?=some y->(l.set i x).sum+y=l.sum+x
 |[],_,_,_,e=>by simp at e
 |z::l,0,x,y,e=>by
  simp at e;subst e;rw[List.set_cons_zero,List.sum_cons,List.sum_cons];omega
 |z::l,i+1,x,y,e=>by
  have:=iu (l:=l) (i:=i) (x:=x) (y:=y) (by simpa using e);rw[List.set_cons_succ,List.sum_cons,List.sum_cons];omega
theorem pG{p:Nat×Nat}(e:cK h l=some p):(ca l p).sum=l.sum:=by
 obtain⟨es,l1,l2,_,_⟩:=fG e;obtain⟨m0,m1,m2,m3,m4⟩:=dQ e;rw[es];have h1:=iu (l:=l) (i:=p.1) (x:=maxN l-1) m1;have h2:=iu (l:=l.set p.1 (maxN l-1)) (i:=p.2) (x:=1) (y:=0) (by rw[List.getElem?_set_ne m4];exact m3);omega
theorem jV{h:Hall}:∀(n:Nat) (l:List Nat),(cw h n l).sum=l.sum
 |0,l=>rfl
 |n+1,l=>by
  simp only[cw]
  cases e:cK h l with
  |none=>rfl
  |some p=>exact(jV n _).trans (pG e)
theorem iB(h:Hall)(l:List Nat):(cy h l).sum=l.sum:=jV _ _
def szB(n:Nat):Wd->Nat
 | .taken=>n+1
 | .served=>n-1
 |_=>n
theorem v5{t:Nat}{mv:Mv}(ho:h.Ok)(hr:r.Ok h)(S:St h r l t)(hm:mv.Ok h):(bO h r l t mv).1.sum=szB l.sum (bO h r l t mv).2.2/\((bO h r l t mv).2.2 = .served->1≤l.sum):=by
 have lW:∀{l:List Nat}{i y:Nat},l[i]?=some y->y≤l.sum:=fun {l i y} e=>by
  have:=iu (x:=0) e;omega
 cases mv with
 |come o =>
  have hk:=me ho hr S.ln hm S.tn;have e:=getN S.ln.1 hk;show(cy h (cj h l (sent h r l t o)).1).sum=szB l.sum (cj h l (sent h r l t o)).2/\((cj h l (sent h r l t o)).2 = .served->1≤l.sum);rw[iB];unfold cj;split
  .exact⟨rfl,fun z=>by cases z⟩
  .refine⟨?_,fun z=>by cases z⟩;have:=iu (x:=l.getD (sent h r l t o) 0+1) e;show(l.set _ _).sum=l.sum+1;omega
 |done k =>
  have e:=getN S.ln.1 (show k<h.ss.length from hm);show(cy h (b7 l k).1).sum=szB l.sum (b7 l k).2/\((b7 l k).2 = .served->1≤l.sum);rw[iB];unfold b7;split
  .exact⟨rfl,fun z=>by cases z⟩
  .rename_i hne;have h1:=iu (x:=l.getD k 0-1) e;have h2:=lW e;refine⟨?_,fun _=>by omega⟩;show(l.set _ _).sum=l.sum-1;omega
 |still=>exact⟨iB h l,fun z=>by cases z⟩
def h8:Mv->Bool
 | .come _=>true
 |_=>false
theorem sJ{h:Hall}{r:Rule}{l:List Nat}{t:Nat}:∀mv:Mv,match mv with
  | .come _=>(bO h r l t mv).2.2 = .taken\/(bO h r l t mv).2.2 = .away
  | .done _=>(bO h r l t mv).2.2 = .served\/(bO h r l t mv).2.2 = .none
  | .still=>(bO h r l t mv).2.2 = .none
 | .come o=>by
  show(cj h l (sent h r l t o)).2 = .taken\/(cj h l (sent h r l t o)).2 = .away;unfold cj;split
  .exact .inr rfl
  .exact .inl rfl
 | .done k=>by
  show(b7 l k).2 = .served\/(b7 l k).2 = .none;unfold b7;split
  .exact .inr rfl
  .exact .inl rfl
 | .still=>rfl
def oneI(b:Bool):Int:=if b then 1 else 0
theorem zd{t:Nat}{mv:Mv}(ho:h.Ok)(hr:r.Ok h)(S:St h r l t)(hm:mv.Ok h) :
  ((bO h r l t mv).1.sum:Int)+oneI (decide ((bO h r l t mv).2.2 = .served))+oneI (decide ((bO h r l t mv).2.2 = .away))=(l.sum:Int)+oneI (h8 mv):=by
 obtain⟨e1,e2⟩:=v5 ho hr S hm;have e3:=sJ (h:=h) (r:=r) (l:=l) (t:=t) mv;rw[e1];have key:∀(w:Wd) (c:Bool),(w = .served->1≤l.sum)->((c=true/\(w = .taken\/w = .away))\/(c=false/\(w = .served\/w = .none)))->((szB l.sum w:Nat):Int)+oneI (decide (w = .served))+oneI (decide (w = .away))=(l.sum:Int)+oneI c:=by
  rintro w c hs (⟨rfl,rfl|rfl⟩|⟨rfl,rfl|rfl⟩)
  .show((l.sum+1:Nat):Int)+0+0=(l.sum:Int)+1;omega
  .show((l.sum:Nat):Int)+0+1=(l.sum:Int)+1;omega
  .have:=hs rfl;show((l.sum-1:Nat):Int)+1+0=(l.sum:Int)+0;omega
  .show((l.sum:Nat):Int)+0+0=(l.sum:Int)+0;omega
 cases mv with
 |come o=>exact key _ true e2 (.inl ⟨rfl,e3⟩)
 |done k=>exact key _ false e2 (.inr ⟨rfl,e3⟩)
 |still=>exact key _ false e2 (.inr ⟨rfl,.inr e3⟩)
def mS(L:List (Pt×Int)):Int:=(L.map fun p=>p.2*(p.1.1.sum:Int)).sum
theorem Ae(a:Pt)(x:Int):∀L:List (Pt×Int),mS (addA a x L)=mS L+x*(a.1.sum:Int)
 |[]=>by show x*(a.1.sum:Int)+0=0+_;omega
 |p::r=>by
  have ih:=Ae a x r;unfold addA;split
  .rename_i e;show(p.2+x)*(p.1.1.sum:Int)+mS r=p.2*(p.1.1.sum:Int)+mS r+x*(a.1.sum:Int);rw[e,Int.add_mul];omega
  .show p.2*(p.1.1.sum:Int)+mS (addA a x r)=p.2*(p.1.1.sum:Int)+mS r+x*(a.1.sum:Int);omega
theorem gH{α:Type}[DecidableEq α](a b:α)(x:Int):∀L:List (α×Int),getA b (addA a x L)=getA b L+if a=b then x else 0
 |[]=>by show(if a=b then x else 0)=0+_;omega
 | p::r=>by
  have ih:=gH a b x r;unfold addA
  by_cases e:p.1=a
  .rw[if_pos e];show(if p.1=b then p.2+x else getA b r)=(if p.1=b then p.2 else getA b r)+_
   by_cases c:p.1=b
   .rw[if_pos c,if_pos c,if_pos (e.symm.trans c)]
   .rw[if_neg c,if_neg c,if_neg (fun z=>c (e.trans z))];omega
  .rw[if_neg e];show(if p.1=b then p.2 else getA b (addA a x r))=(if p.1=b then p.2 else getA b r)+_
   by_cases c:p.1=b
   .rw[if_pos c,if_pos c,if_neg (fun z=>e (c.trans z.symm))];omega
   .rw[if_neg c,if_neg c,ih]
def allX(x:List (Pt×Int)×List (Wd×Int)):Int:=mS x.1+getA .served x.2+getA .away x.2
def jj(M:Ms):Int:=(M.map fun q=>if h8 q.1 then q.2 else 0).sum
theorem Cf(ho:h.Ok)(hr:r.Ok h){p:Pt}(S:St h r p.1 p.2)(w:Int){q:Mv×Int}(hq:q.1.Ok h)(x:List (Pt×Int)×List (Wd×Int)):allX (goW1 h r p w q x)=allX x+w*(q.2*(p.1.sum:Int)+if h8 q.1 then q.2 else 0):=by
 have e:=zd ho hr S hq;unfold allX goW1;dsimp only;rw[Ae,gH,gH];generalize bO h r p.1 p.2 q.1=m at *;dsimp only;have f:∀b:Prop,[Decidable b]->(if b then w*q.2 else 0)=w*q.2*oneI (decide b):=fun b _=>by
  by_cases c:b
  .rw[if_pos c,decide_eq_true c];show _=_*(1:Int);rw[Int.mul_one]
  .rw[if_neg c,decide_eq_false c];show _=_*(0:Int);rw[Int.mul_zero]
 rw[f,f];have g:(if h8 q.1 then q.2 else 0)=q.2*oneI (h8 q.1):=by
  cases h8 q.1
  .show(0:Int)=q.2*0;rw[Int.mul_zero]
  .show q.2=q.2*1;rw[Int.mul_one]
 rw[g,<-Int.mul_add q.2,<-e,<-Int.mul_assoc,Int.mul_add,Int.mul_add];omega
theorem xy{h:Hall}{r:Rule}(ho:h.Ok)(hr:r.Ok h){p:Pt}(S:St h r p.1 p.2)(w:Int):∀{M:Ms}{x:List (Pt×Int)×List (Wd×Int)},(∀q∈M,q.1.Ok h)->allX (M.foldl (fun x q=>goW1 h r p w q x) x)=allX x+w*((M.map (·.2)).sum*(p.1.sum:Int)+jj M)
 |[],x,_=>by show allX x=allX x+w*(0*_+0);rw[Int.zero_mul,Int.add_zero,Int.mul_zero,Int.add_zero]
 |q::M,x,hM=>by
  have ih:=xy ho hr S w (M:=M) (x:=goW1 h r p w q x) fun z hz=>hM z (List.mem_cons_of_mem _ hz);rw[List.foldl_cons,ih,Cf ho hr S w (hM q List.mem_cons_self)];rw[show jj (q::M)=(if h8 q.1 then q.2 else 0)+jj M from rfl,List.map_cons,List.sum_cons,Int.add_mul];rw[Int.mul_add,Int.mul_add,Int.mul_add,Int.mul_add,Int.mul_add];omega
theorem Am{h:Hall}{r:Rule}(ho:h.Ok)(hr:r.Ok h):∀{W:List (Pt×Int)}{x:List (Pt×Int)×List (Wd×Int)},(∀p∈W,St h r p.1.1 p.1.2)->allX (W.foldl (goW h r (msL h)) x)=allX x+mS W*((msL h).map (·.2)).sum+sumA W*jj (msL h)
 |[],x,_=>by show allX x=allX x+0*_+0*_;rw[Int.zero_mul,Int.zero_mul,Int.add_zero,Int.add_zero]
 |p::W,x,hW=>by
  have ih:=Am ho hr (W:=W) (x:=goW h r (msL h) x p) fun z hz=>hW z (List.mem_cons_of_mem _ hz);have i1:=xy ho hr (hW p List.mem_cons_self) p.2 (M:=msL h) (x:=x) fun q hq=>((zt ho).2 q hq).1;rw[List.foldl_cons,ih];rw[show goW h r (msL h) x p=(msL h).foldl (fun x q=>goW1 h r p.1 p.2 q x) x from rfl,i1];rw[show mS (p::W)=p.2*(p.1.1.sum:Int)+mS W from rfl,show sumA (p::W)=p.2+sumA W from rfl,Int.mul_add,Int.add_mul,Int.add_mul];rw[show p.2*(((msL h).map (·.2)).sum*(p.1.1.sum:Int))=p.2*(p.1.1.sum:Int)*((msL h).map (·.2)).sum by simp only[Int.mul_comm,Int.mul_left_comm,Int.mul_assoc]];omega
def totW(h:Hall)(r:Rule)(k:Nat):Int:=jd h r k+cntW h r .served k+cntW h r .away k
theorem zn(ho:h.Ok)(hr:r.Ok h)(h0:0≤(restF h h.ss.length).1)(k:Nat):totW h r (k+1)=totW h r k*(botH h:Int)+((botH h^k:Nat):Int)*jj (msL h):=by
 have b:=Am ho hr (W:=stW h r k) (x:=([],[])) (gc ho hr k);rw[rH ho h0,ja ho h0 r k]at b;have b':jd h r (k+1)+getA .served (wdW h r k)+getA .away (wdW h r k)=0+jd h r k*(botH h:Int)+((botH h^k:Nat):Int)*jj (msL h):=b;unfold totW;rw[cntW,cntW,Int.add_mul,Int.add_mul];omega
theorem Af{h:Hall}{r:Rule}(ho:h.Ok)(hr:r.Ok h)(h0:0≤(restF h h.ss.length).1):∀k,totW h r k*(botH h:Int)=(k:Int)*jj (msL h)*((botH h^k:Nat):Int)
 | 0=>by
  have z:totW h r 0=0:=by
   have zs:(zer h).sum=0:=by
    unfold zer
    induction h.ss.length with
    |zero=>rfl
    |succ n ih=>rw[List.replicate_succ,List.sum_cons,ih]
   show((1*(((zer h).sum:Nat):Int))+0)+0+0=0;rw[zs];rfl
  rw[z];show 0*_=0*_*_;rw[Int.zero_mul,Int.zero_mul,Int.zero_mul]
 |k+1=>by
  rw[zn ho hr h0,Int.add_mul,Af ho hr h0 k,Nat.pow_succ,Int.natCast_mul,Int.natCast_add,Int.add_mul,Int.add_mul];show _=_+1*_*_;rw[Int.one_mul];simp only[Int.mul_comm,Int.mul_left_comm,Int.mul_assoc]
theorem zq(ho:h.Ok)(hr:r.Ok h)(h0:0≤(restF h h.ss.length).1)(hC:jj (msL h)*(h.b:Int)=(h.a:Int)*(botH h:Int))(k:Nat):totW h r k*(h.b:Int)=(k:Int)*(h.a:Int)*((botH h^k:Nat):Int):=by
 have e:=Af ho hr h0 (r:=r) k;have bp:1≤botH h:=by have:=(gG ho).pre (shrL h).length;rw[List.take_length]at this;exact this.1
 refine Int.eq_of_mul_eq_mul_left (a:=(botH h:Int)) (by omega) ?_
 calc (botH h:Int)*(totW h r k*(h.b:Int))=(totW h r k*(botH h:Int))*(h.b:Int):=by simp only[Int.mul_comm,Int.mul_left_comm,Int.mul_assoc]
  _=(k:Int)*(jj (msL h)*(h.b:Int))*((botH h^k:Nat):Int):=by rw[e];simp only[Int.mul_comm,Int.mul_left_comm,Int.mul_assoc]
  _=(botH h:Int)*((k:Int)*(h.a:Int)*((botH h^k:Nat):Int)):=by rw[hC];simp only[Int.mul_comm,Int.mul_left_comm,Int.mul_assoc]
theorem lw{α:Type}{f:α->Int}:∀{l:List α},(∀x∈l,f x=0)->(l.map f).sum=0
 |[],_=>rfl
 |x::l,h=>by rw[List.map_cons,List.sum_cons,lw fun y hy=>h y (List.mem_cons_of_mem _ hy),h x List.mem_cons_self];rfl
theorem Ix(ho:h.Ok):jj (msL h)*(h.b:Int)=(h.a:Int)*(botH h:Int):=by
 have b1:=ho.b1;have pO:=cI h.ss.length ho.n4;have dvC:(bi h).2.toNat ∣ botH h:=by
  obtain⟨o,hm⟩:=List.exists_mem_of_length_pos pO;refine gI (p:=prF (Mv.come o).d (bi h)) ?_;unfold shrL;exact List.mem_append.mpr (.inl (List.mem_append.mpr (.inl (List.mem_map.mpr ⟨o,hm,rfl⟩))))
 have hbn:0<(h.b:Int)*((ordK h.ss.length h.ss.length).length:Int):=Int.mul_pos (by omega) (by omega);have eo:=kg ho pO;have eC:vF (botH h) (bi h).1 (bi h).2.toNat*((h.b:Int)*((ordK h.ss.length h.ss.length).length:Int))=(h.a:Int)*1*(botH h:Int):=by
  refine jo dvC ?_;rw[show(((bi h).2.toNat:Nat):Int)=(bi h).2 by have:=eo.hp;omega];exact bW hbn
 have es:jj (msL h)=((ordK h.ss.length h.ss.length).length:Int)*vF (botH h) (bi h).1 (bi h).2.toNat:=by
  unfold jj msL shrM;rw[List.map_map,List.map_append,List.map_append,List.sum_append,List.sum_append,List.map_map,List.map_map];have e1:=jK (vF (botH h) (bi h).1 (bi h).2.toNat) (ordK h.ss.length h.ss.length);have e2:=lw (f:=((fun q:Mv×Int=>if h8 q.1=true then q.2 else 0)∘fun q:Mv×Int×Nat=>(q.1,q.2.1*((botH h/q.2.2:Nat):Int)))∘fun q:Srv×Nat=>(Mv.done q.2,(q.1.a:Int),q.1.b)) (l:=h.ss.zipIdx) fun _ _=>rfl;have e3:=lw (f:=(fun q:Mv×Int=>if h8 q.1=true then q.2 else 0)∘fun q:Mv×Int×Nat=>(q.1,q.2.1*((botH h/q.2.2:Nat):Int))) (l:=if 0<(restF h h.ss.length).1 then [(Mv.still,(restF h h.ss.length).1,(restF h h.ss.length).2.toNat)]else []) fun x hx=>by
   split at hx
   .rw[List.mem_singleton.mp hx];rfl
   .cases hx
  rw[e2,e3,Int.add_zero,Int.add_zero];exact e1
 rw[Int.mul_one]at eC;rw[es,<-eC];simp only[Int.mul_comm,Int.mul_left_comm,Int.mul_assoc]
theorem zo(ho:h.Ok)(hr:r.Ok h)(h0:0≤(restF h h.ss.length).1)(k:Nat):totW h r k*(h.b:Int)=(k:Int)*(h.a:Int)*((botH h^k:Nat):Int):=zq ho hr h0 (Ix ho) k
end K
namespace L2
open PySem PySem.Spec PyProof.Rows
variable{w:WS}{D:cZ}
section
variable {X:Cx}
def wFzO(w:WS):WS:=fun D m=>w D m\/wFzX w D m
theorem Jc{st:Stmt}(h:MS X st w):MS X st (wFzO w):=fun pins s σ H D I ⟨α,m,De,Rl,hw,k⟩=>hw.elim (fun a=>h pins s σ H D I ⟨α,m,De,Rl,a,k⟩) fun b=>Ac h pins s σ H D I ⟨α,m,De,Rl,b,k⟩
theorem u3{st:Stmt}(h:ES X st w):ES X st (wFzO w):=⟨Jc h.h⟩
theorem Gc{m:MSt}(h:w D m):wFzO w D m:=.inl h
theorem Fg{m:MSt}(h:wFzX w D m):wFzO w D m:=.inr h
theorem Lr{m:MSt}{r2:R}{neg:Bool}{k:PyData}{kvs:List (PyData×PyData)}{Kr:R->Prop}(e1:dcM m kvs r2)(e2:oneK kvs k=true)(h:Kr (.imm (.bool (if neg=true then !(cc k kvs).isSome else(cc k kvs).isSome)))):oInD neg (.imm k) r2 m Kr:=⟨kvs,e1,e2,h⟩
theorem bu{ds:List PyData}{g:WG}{m1:MSt}(P:Nat->MSt->Prop)(p0:P 0 m1)
  (step:∀(i:Nat) (d:PyData) (m:MSt),ds[i]?=some d->m.np=m1.np->P i m->∀D':cZ,(∀m',P (i+1) m'->D'.nx m')->(∀r m',D.rt r (m'.setN m1.np)->D'.rt r m')->g d m fun m2=>w D' m2)
  (fin:∀m,m.np=m1.np->P ds.length m->D.nx m):gL ⟨ds,none⟩ g w D m1:=dI P p0 (fun i d m e n p=>step i d m e n p _ (fun _ z=>z) fun _ _ z=>z) fin
theorem ag{e:Expr}{we:WE}{pos pos':Pos}{x:Str}(i:Nat)(hN:X.N.Nodup)(he:EE X e we)(hi:X.N[i]?=some x:=by rfl)(hx:Loc X.env.scope x:=by exact Or.inl rfl)(hs:swapsWith e (some (.Name x pos')) pos.line X.env=pure false:=by rfl)(hf:X.fn x=true\/X.env.scope.names.lookup x=some .local:=by first|exact .inl rfl|exact .inr rfl|assumption):ES X (.Assign [.Name x pos'] e pos) (wSet i we):=cU hN hi hx he hs hf
theorem ap{pos:Pos}{x:Str}(i:Nat)(hN:X.N.Nodup)(hi:X.N[i]?=some x:=by rfl)(hx:Loc X.env.scope x:=by exact Or.inl rfl)(hf:X.fn x=true\/X.env.scope.names.lookup x=some .local:=by first|exact .inl rfl|exact .inr rfl|assumption):EG X (.Name x pos) (gM i):=lD hN hi hx hf
end
end L2
namespace K
open PySem L2 M7
variable{h:Hall}{i n:Nat}{r:Rule}{D:Int}{W:List (Pt×Int)}{q:Mv×Int×Nat}
def oA:SpM:=ig
def vm:SpM:=fun as K=>∃(fd:List PyData) (c:Nat) (h:Hall),as=[.own fd,.imm h.d]/\h.Ok/\TapeD c fd/\c<800000000/\∀(r:Rule) (fd':List PyData),r.Ok h->TapeD (c+2410) fd'->K (.imm r.d) [fd']
def rJ:SpM:=fun as K=>∃(h:Hall) (r:Rule) (l:List Nat) (t:Nat) (o:List Nat),as=[.imm h.d,.imm r.d,.imm (stD l t),.imm (lnD o)]/\h.Ok/\r.Ok h/\St h r l t/\Ord h.ss.length o/\K (.imm (mvD (bO h r l t (.come o)))) []
def behD(h:Hall)(r:Rule)(l:List Nat)(t:Nat)(q:Mv×Int×Nat):PyData:=.tuple [ptD ((bO h r l t q.1).1,(bO h r l t q.1).2.1),wdD (bO h r l t q.1).2.2,frT q.2.1 (q.2.2:Int)]
def zH:SpM:=fun as K=>∃(h:Hall) (r:Rule) (l:List Nat) (t:Nat),as=[.imm h.d,.imm r.d,.imm (stD l t)]/\h.Ok/\r.Ok h/\St h r l t/\K (.new ((shrM h).map (behD h r l t))) []
def cmM(h:Hall):List (Mv×Int×Nat):=(ordK h.ss.length h.ss.length).map fun o=>(Mv.come o,(bi h).1,(bi h).2.toNat)
def dnM(h:Hall):List (Mv×Int×Nat):=h.ss.zipIdx.map fun q=>(Mv.done q.2,(q.1.a:Int),q.1.b)
theorem BW{s:Srv}(e:h.ss[i]?=some s):(dnM h)[i]?=some (Mv.done i,(s.a:Int),s.b):=by
 unfold dnM;rw[List.getElem?_map,List.getElem?_zipIdx,e];show some (Mv.done (0+i),_,_)=_;rw[Nat.zero_add]
theorem Jl(ho:h.Ok):nf (h.a:Int) (((h.b*(ordK h.ss.length h.ss.length).length:Nat)):Int)=frT (bi h).1 (((bi h).2.toNat:Nat):Int):=by
 have hp:=(kg ho (cI h.ss.length ho.n4)).hp;rw[show(((bi h).2.toNat:Nat):Int)=(bi h).2 by omega,dL];unfold bi;rw[Int.mul_one,Int.natCast_mul]
structure RL(h:Hall)(i:Nat)(x:Int×Int):Prop where
 e:x.1*(restF h i).2=(restF h i).1*x.2
 f:FrOk x.1 x.2
 g:0<i->x=restF h i
theorem RL.zero(ho:h.Ok):RL h 0 ((h.b:Int)-(h.a:Int),(h.b:Int)):=by
 have b1:=ho.b1;have b2:=ho.b2;have a2:=ho.a2;have c:=bW (t:=1*(h.b:Int)-(h.a:Int)*1) (b:=1*(h.b:Int)) (by omega);have c':(restF h 0).1*(1*(h.b:Int))=(1*(h.b:Int)-(h.a:Int)*1)*(restF h 0).2:=c;rw[Int.one_mul,Int.mul_one]at c';refine⟨c'.symm,⟨?_,?_,?_⟩,fun z=>by omega⟩
 .show((h.b:Int)-(h.a:Int)).natAbs<10^76;omega
 .show((h.b:Int)).natAbs<10^76;omega
 .show(0:Int)<h.b;omega
theorem RL.succ(ho:h.Ok){x:Int×Int}{s:Srv}(X:RL h i x)(es:h.ss[i]?=some s):RL h (i+1) (nfP (x.1*(s.b:Int) + -(s.a:Int)*x.2) (x.2*(s.b:Int))):=by
 have hi:i<h.ss.length:=(List.getElem?_eq_some_iff.mp es).1;have so:=ho.ok s (List.mem_of_getElem? es);have sb:=so.b1;have r2:=(df ho i (by omega)).1;have xp:=X.f.hp;have e:nfP (x.1*(s.b:Int) + -(s.a:Int)*x.2) (x.2*(s.b:Int))=restF h (i+1):=by
  rw[restF,es];refine fE (Int.mul_pos xp (by omega)) (Int.mul_pos r2 (by omega)) ?_;have e0:=X.e;have h1:x.1*(s.b:Int)*((restF h i).2*(s.b:Int))=(x.1*(restF h i).2)*((s.b:Int)*(s.b:Int)):=by simp only[Int.mul_comm,Int.mul_left_comm,Int.mul_assoc]
  have h2:(restF h i).1*(s.b:Int)*(x.2*(s.b:Int))=((restF h i).1*x.2)*((s.b:Int)*(s.b:Int)):=by simp only[Int.mul_comm,Int.mul_left_comm,Int.mul_assoc]
  have h3 : -(s.a:Int)*x.2*((restF h i).2*(s.b:Int)) = -((s.a:Int)*(restF h i).2*(x.2*(s.b:Int))):=by rw[Int.neg_mul,Int.neg_mul];congr 1;simp only[Int.mul_comm,Int.mul_left_comm,Int.mul_assoc]
  show(x.1*(s.b:Int) + -(s.a:Int)*x.2)*((restF h i).2*(s.b:Int))=((restF h i).1*(s.b:Int)-(s.a:Int)*(restF h i).2)*(x.2*(s.b:Int));rw[Int.add_mul,Int.sub_mul,h1,h2,h3,e0];omega
 rw[e];exact⟨rfl,oW ho (by omega),fun _=>rfl⟩
structure DuOk(h:Hall)(r:Rule)(n:Nat):Prop where
 ho:h.Ok
 hr:r.Ok h
 h0:0≤(restF h h.ss.length).1
 le:n≤12
 b:botH h^n<10^66
def zK:SpM:=fun as K=>∃(h:Hall) (r:Rule) (n:Nat),as=[.imm h.d,.imm r.d,.imm (.int (n:Int))]/\DuOk h r n/\K (.imm (mnD h r n)) []
theorem DuOk.pw(D:DuOk h r n){k:Nat}(hk:k≤n):botH h^k<10^66:=Nat.lt_of_le_of_lt (Nat.pow_le_pow_right (l4 D.ho) hk) D.b
theorem DuOk.p0(D:DuOk h r n)(k:Nat):0<((botH h^k:Nat):Int):=by
 have:=Nat.pow_pos (n:=k) (show 0<botH h from l4 D.ho);omega
theorem t6{a v:Int}(hD:0<D):nfP (a*(nfP v D).1) (1*(nfP v D).2)=nfP (v*a) D:=by
 have e1:=bW (t:=v) hD;rw[Int.one_mul];refine fE (f7 hD).1 hD ?_
 calc a*(nfP v D).1*D=((nfP v D).1*D)*a:=by simp only[Int.mul_comm,Int.mul_left_comm,Int.mul_assoc]
  _=v*a*(nfP v D).2:=by rw[e1];simp only[Int.mul_comm,Int.mul_left_comm,Int.mul_assoc]
structure GoB(c:Int)(x:List (Pt×Int)×List (Wd×Int)):Prop where
 n1:∀p∈x.1,0≤p.2
 n2:∀p∈x.2,0≤p.2
 s1:sumA x.1≤c
 s2:sumA x.2≤c
theorem GoB.next{c d:Int}{p:Pt}{w:Int}{q:Mv×Int}{x:List (Pt×Int)×List (Wd×Int)}(X:GoB c x)(h1:0≤w*q.2)(h2:w*q.2≤d):GoB (c+d) (goW1 h r p w q x):=by
 have s1:=X.s1;have s2:=X.s2;unfold goW1;exact⟨jC h1 X.n1,jC h1 X.n2,by rw[gJ];omega,by rw[gJ];omega⟩
theorem DuOk.amt(D:DuOk h r n){k:Nat}{p:Pt×Int}{q:Mv×Int}(hp:p∈stW h r k)(hq:q∈msL h):0≤p.2*q.2/\p.2*q.2≤((botH h^(k+1):Nat):Int):=by
 have w0:=oq D.ho D.h0 r k;have w1:=(fq w0).2 p hp;rw[ja D.ho D.h0 r k]at w1;have w2:=w0 p hp;have v0:=I9 D.ho D.h0;have v1:=(fq (L:=msL h) v0).2 q hq;have v2:=v0 q hq;have e:sumA (msL h)=(botH h:Int):=rH D.ho D.h0;rw[e]at v1;refine⟨Int.mul_nonneg w2 v2,?_⟩;rw[Nat.pow_succ,Int.natCast_mul];exact Int.mul_le_mul w1 v1 v2 (Int.natCast_nonneg _)
theorem Ap{v c:Int}{D k:Nat}(h0:0≤v)(h1:v≤c)(hc:c≤(k:Int)*(D:Int))(hk:k≤10000000)(hD:D<10^66):v.natAbs<10^76:=by
 have m:(k:Int)*(D:Int)≤((10000000*10^66:Nat):Int):=by
  rw[<-Int.natCast_mul];exact Int.ofNat_le.mpr (Nat.mul_le_mul hk (Nat.le_of_lt hD))
 have e:10000000*10^66<10^76:=by decide
 omega
theorem uq(ho:h.Ok)(hW:∀p∈W,St h r p.1.1 p.1.2):kyA (shD D W)=true:=by
 unfold kyA shD kvG;rw[List.all_map,List.all_eq_true];exact fun p hp=>ol ho (hW p hp)
theorem wy{d:PyData}(e:(kl (shD D W))[i]?=some d):∃pr:Pt×Int,W[i]?=some pr/\d=ptD pr.1/\i<W.length:=by
 unfold kl shD kvG at e;rw[List.map_map,List.getElem?_map]at e
 cases q:W[i]? with
 |none=>rw[q]at e;cases e
 |some pr =>
  rw[q]at e;exact⟨pr,rfl,(Option.some.inj e).symm,(List.getElem?_eq_some_iff.mp q).1⟩
theorem wQ:(kl (shD D W)).length=W.length:=by unfold kl shD kvG;rw[List.length_map,List.length_map]
theorem Im{j:Nat}(e:(shrM h)[j]?=some q):(msL h)[j]?=some (q.1,q.2.1*((botH h/q.2.2:Nat):Int)):=by
 unfold msL;rw[List.getElem?_map,e];rfl
theorem DuOk.part(D:DuOk h r n){k:Nat}(w:Int)(hq:q∈shrM h):FrOk q.2.1 (q.2.2:Int)/\nfP ((nfP w ((botH h^k:Nat):Int)).1*q.2.1) ((nfP w ((botH h^k:Nat):Int)).2*(q.2.2:Int))=nfP (w*(q.2.1*((botH h/q.2.2:Nat):Int))) ((botH h^(k+1):Nat):Int):=by
 have B:=gG D.ho;have hm:(q.1.d,q.2)∈shrL h:=by rw[jH];exact List.mem_map.mpr ⟨q,hq,rfl⟩
 have d:=B.d _ hm;have dv:q.2.2 ∣ botH h:=gI hm;have bp:=l4 D.ho;have b1:1≤q.2.2:=d.1;have le:=Nat.le_of_dvd bp dv;have bL:botH h<10^76:=by have:=B.pre (shrL h).length;rw[List.take_length]at this;exact this.2
 have k1:0<botH h/q.2.2:=Nat.div_pos le b1;refine⟨⟨d.2.2,by rw[Int.natAbs_natCast];omega,by omega⟩,?_⟩;rw[vw (k:=((botH h/q.2.2:Nat):Int)) (D.p0 k) (by omega) (by omega)]
 congr 1
 rw[<-Int.natCast_mul,Nat.mul_div_cancel' dv,Nat.pow_succ,Int.natCast_mul]
theorem nw{i:Int}(h:i.natAbs<10^100):Fine 101 0 (.int i):=by
 have sl:(PyData.shown (.int i)).length≤101:=by
  have e:=PySem.int_text_length_le10 (k:=100) (by decide) h;show(Str.ofString (toString i)).length≤101;rw[PySem.ofString_length];exact e
 refine⟨?_,rfl,sl,Nat.le_refl _⟩;have:i.natAbs.log2<400\/i.natAbs=0:=by
  by_cases z:i.natAbs=0
  .exact .inr z
  .exact .inl ((Nat.log2_lt z).mpr (Nat.lt_trans h (show 10^100<2^400 by decide)))
 show decide (i.natAbs.log2<1920)=true;rcases this with h|h
 .exact decide_eq_true (by omega)
 .rw[h];decide
theorem oN{t b:Int}(hb0:0<b)(ht:t.natAbs<10^76)(hb:b.natAbs<10^76):Fine 300 1 (nf t b):=by
 have F:=nq hb0 ht hb;refine(kz (n:=101) (k:=0) (c:=2) (ds:=[.int (nfP t b).1,.int (nfP t b).2]) (fun d hd=>?_) (Nat.le_refl 2)).mono (by decide) (by decide);rcases List.mem_cons.mp hd with e|e
 .rw[e];exact nw (Nat.lt_trans F.ha (by decide))
 .rw[List.mem_singleton.mp e];exact nw (Nat.lt_trans F.hb (by decide))
theorem DuOk.cn(D:DuOk h r n)(w:Wd):0≤cntW h r w n/\(cntW h r w n).natAbs<10^70:=by
 obtain⟨c0,c1⟩:=k9 D.ho D.h0 r w n;have b:=D.b;have le:=D.le;have m:(n:Int)*((botH h^n:Nat):Int)≤((12*10^66:Nat):Int):=by
  rw[<-Int.natCast_mul];exact Int.ofNat_le.mpr (Nat.mul_le_mul le (Nat.le_of_lt b))
 have e:12*10^66<10^70:=by decide
 exact⟨c0,by omega⟩
theorem DuOk.mn(D:DuOk h r n):(jd h r n).natAbs<10^74:=by
 have w0:=oq D.ho D.h0 r n;have w1:=(fq w0).2;rw[ja D.ho D.h0 r n]at w1;have b:=D.b;have ln:=qP D.ho D.hr n;have h1:=mr (f:=fun p:Pt×Int=>p.2*(p.1.1.sum:Int)) (B:=10^66*24) (L:=stW h r n) fun p hp=>by
  have a0:=w0 p hp;have a1:=w1 p hp;rw[Int.natAbs_mul];exact Nat.mul_le_mul (by omega) (by have:=ie D.ho (gc D.ho D.hr n p hp).ln;omega)
 have h2:(stW h r n).length*(10^66*24)≤100000*(10^66*24):=Nat.mul_le_mul ln (Nat.le_refl _);exact Nat.lt_of_le_of_lt (Nat.le_trans h1 h2) (by decide)
theorem DuOk.fine(D:DuOk h r n):Fine 1000 2 (mnD h r n):=by
 have p:=D.p0 n;have b:(((botH h^n:Nat):Int)).natAbs<10^76:=by rw[Int.natAbs_natCast];exact Nat.lt_trans D.b (by decide)
 refine(kz (n:=300) (k:=1) (c:=3) (ds:=[nf (jd h r n) ((botH h^n:Nat):Int),nf (cntW h r .served n) ((botH h^n:Nat):Int),nf (cntW h r .away n) ((botH h^n:Nat):Int)]) (fun d hd=>?_) (Nat.le_refl 3)).mono (by decide) (by decide);rcases List.mem_cons.mp hd with e|e1
 .rw[e];exact oN p (Nat.lt_trans D.mn (by decide)) b
 rcases List.mem_cons.mp e1 with e|e2
 .rw[e];exact oN p (Nat.lt_trans (D.cn _).2 (by decide)) b
 .rw[List.mem_singleton.mp e2];exact oN p (Nat.lt_trans (D.cn _).2 (by decide)) b
theorem DuOk.whole(D:DuOk h r n):nfP (jd h r n+(cntW h r .served n+cntW h r .away n)) ((botH h^n:Nat):Int)=nfP ((n:Int)*(h.a:Int)) (1*(h.b:Int)):=by
 have e:=zo D.ho D.hr D.h0 (r:=r) n;have b1:=D.ho.b1;rw[Int.one_mul];refine fE (D.p0 n) (by omega) ?_;unfold totW at e;rw[<-Int.add_assoc,e]
end K
namespace K
open PySem L2
variable{l:PySem.W.OpenLaw}
local macro_rules | `(tactic| walk_at "x1") => `(tactic| first
 |(with_reducible first|apply fh|apply Lm)|((with_reducible refine' CV ?xe ?_);(case xe=>rfl))|(with_reducible first|apply x_c|apply FI|apply Ji|apply Du|apply Av|apply Bq|apply KJ|apply FH|apply F8|apply x_lt|apply x_le|apply x_gt|apply x_ge|apply JM|apply J4|apply JG|apply JC|apply x_isT)|((with_reducible refine' x_nd ?xe ?_);(case xe=>first|rfl|assumption))|(with_reducible first|apply x_rev|apply x_min|apply x_max)|((with_reducible refine' Ku ?_))|(with_reducible first|apply FZ|apply x_mt|apply x_ts)
 |((with_reducible refine' aD ?xe ?_);(case xe=>rfl))|((with_reducible refine' lS ?xf ?xe ?_);(case xf=>rfl);(case xe=>rfl))|((with_reducible refine' qe ?xe ?_);(case xe=>rfl))|((with_reducible refine' iC ?xe ?_);(case xe=>rfl))
 |((with_reducible refine' AM ?xe ?_);(case xe=>omega))|((with_reducible refine' gQ ?xe ?_);(case xe=>exact cfd (by omega) (by omega)))|((with_reducible refine' bC ?xe ?_);(case xe=>exact Kj (by omega)))|((with_reducible refine' JP ?xe ?_);(case xe=>exact⟨by decide,by decide,by decide⟩))
 |(with_reducible first|apply pQ|apply bJ|apply x_bindO|apply Ki|apply JN|apply Fb|apply Gg)|((with_reducible refine' JY ?xe ?xf ?_);(case xe=>rfl);(case xf=>rfl))
 |(with_reducible first|apply KO|apply x_or|apply Lu|apply x_andV|apply x_orV|apply x_notV|apply Gi|apply J5|apply x_cb|apply IZ)|((with_reducible refine' K7 ?xe ?xf ?_);(case xe=>rfl);(case xf=>decide))
 |(with_reducible first|apply JW|apply KW)|((with_reducible refine' Kq ?xe ?xf ?_);(case xe=>rfl);(case xf=>exact of_decide_eq_true rfl))|(with_reducible first|apply J7|apply x_dix|apply GJ|apply sd|apply GG|apply x_disp|apply x_pNil|apply x_pCons|apply gX|apply x_bindA)|((with_reducible refine' x_dgot ?xa ?xb ?xc ?xd ?xe ?_);(case xa=>rfl);(case xb=>rfl);(case xc=>rfl);(case xd=>rfl);(case xe=>rfl))|((with_reducible refine' x_dgotN ?xa ?xb ?xc ?xd ?xe ?_);(case xa=>rfl);(case xb=>rfl);(case xc=>rfl);(case xd=>rfl);(case xe=>rfl))|((with_reducible refine' x_dputs ?xa ?xb ?xc ?xd ?xe ?xf ?_);(case xa=>rfl);(case xb=>rfl);(case xc=>rfl);(case xd=>rfl);(case xe=>exact of_decide_eq_true rfl);(case xf=>rfl))|((with_reducible refine' x_onPairs ?xa ?xb ?xc ?xd ?_);(case xa=>rfl);(case xb=>rfl);(case xc=>exact of_decide_eq_true rfl);(case xd=>rfl))
 |with_reducible apply x_callX|((with_reducible refine' x_agsX ?xe ?xf ?_);(case xe=>rfl);(case xf=>decide))|(with_reducible first|apply x_raise|apply x_raiseI|apply x_excI|apply x_excP|apply x_xf|apply x_isX|apply x_isXs)|((with_reducible refine' x_rz ?xe ?_);(case xe=>exact of_decide_eq_true rfl))
 |((with_reducible refine' x_onAgs ?xa ?xb ?_);(case xa=>rfl);(case xb=>decide))|(with_reducible first|apply x_tupR|apply DY|apply x_immT|apply x_fsC|apply x_fsN|apply x_trI|apply x_trN|apply x_trT|apply x_fldI)|((with_reducible refine' x_fgot ?xa ?xb ?xc ?xd ?xe ?_);(case xa=>rfl);(case xb=>rfl);(case xc=>rfl);(case xd=>rfl);(case xe=>rfl))|((with_reducible refine' x_fgotN ?xa ?xb ?xc ?xd ?xe ?_);(case xa=>rfl);(case xb=>rfl);(case xc=>rfl);(case xd=>rfl);(case xe=>rfl))|with_reducible apply x_meth|((with_reducible refine' x_insR ?xa ?xb ?xc ?_);(case xa=>rfl);(case xb=>rfl);(case xc=>rfl))|with_reducible apply x_make|((with_reducible refine' x_onImms ?xa ?_);(case xa=>rfl))|(with_reducible first|apply x_reps|apply x_dputT|apply x_empt|apply x_dispT|apply x_ml0)|((with_reducible refine' x_onPairsT ?xa ?xb ?xc ?_);(case xa=>rfl);(case xb=>rfl);(case xc=>exact of_decide_eq_true rfl))
 |(with_reducible first|apply x_un|apply JT|apply Kz|apply x_intI|apply Gj|apply Jw|apply DQ|apply DM)|((with_reducible refine' DG ?xe ?_);(case xe=>rfl))|(with_reducible first|apply Jb|apply Jy|apply Jt|apply Jg|apply x_retN|apply x_chain|apply x_ml)|((with_reducible refine' x_ls ?xe ?_);(case xe=>rfl))
 |(with_reducible first|apply x_isN|apply x_isB|apply zg|apply x_gM|apply GA|apply Dl|apply FY)
 |((with_reducible refine' CW ?xe ?_);(case xe=>rfl))|with_reducible apply FB|((with_reducible refine' x_list ?xe ?_);(case xe=>rfl))|((with_reducible refine' Ay ?xe ?_);(case xe=>rfl))|(with_reducible first|apply x_listR|apply x_sl|apply yV|apply Jq|apply Lp|apply Jm|apply FV|apply GH)|((with_reducible refine' IR ?xe ?_);(case xe=>rfl))|(with_reducible first|apply IJ|apply x_rng2|apply Ck|apply C7|apply Lh|apply yj|apply GI|apply iW)|with_reducible apply gg)
local macro_rules | `(tactic| walk_at "xs") => `(tactic| repeat walk_at "x1")
local macro_rules | `(tactic| walk_at "xn") => `(tactic| first | dsimp only [mapR, cr, List.set, MSt.setV, MSt.setN, List.take, List.length, List.append, jc, sU, Nat.reduceAdd, List.getD_cons_succ, List.getD_cons_zero, List.nil_append, List.cons_append, setT, lfD] | dsimp only [mapR, cr, List.set, MSt.setV, MSt.setN, List.take, List.length, List.append, jc, sU, Nat.reduceAdd, List.getD_cons_succ, List.getD_cons_zero, List.nil_append, List.cons_append] | skip)
local macro_rules | `(tactic| walk_at "sc") => `(tactic| exact ⟨rfl, rfl, rfl, by decide +kernel, rfl, by decide +kernel, by decide +kernel⟩)
local macro_rules | `(tactic| walk_at "xx") => `(tactic| (walk_at "xn"; walk_at "xs"))
def top(i:Nat):Stmt:=PySem.Challenge.pw_shorterline_k35_means_of_turns.main.body.getD i (.Pass ⟨0,0,0,0⟩)
abbrev cF:Stmt:=top 4
abbrev fj:Stmt:=top 5
abbrev ir:Stmt:=top 6
abbrev lp:Stmt:=top 7
abbrev mq:Stmt:=top 8
abbrev cG:Stmt:=top 9
abbrev db:Stmt:=top 12
abbrev dh:Stmt:=top 14
abbrev lM:Stmt:=top 15
abbrev dm:Stmt:=top 16
abbrev ll:Stmt:=top 17
abbrev fm:Stmt:=top 19
abbrev d5:Stmt:=top 20
abbrev iQ:Stmt:=top 21
abbrev l8:Stmt:=top 22
abbrev lZ:Stmt:=top 23
abbrev gx:Stmt:=top 24
abbrev l7:Stmt:=top 25
abbrev fu:Stmt:=top 26
abbrev md:Stmt:=top 27
abbrev jR:Stmt:=top 28
abbrev dw:Stmt:=top 30
abbrev de:Stmt:=top 31
abbrev ib:Stmt:=top 33
abbrev iJ:Stmt:=top 35
abbrev im:Stmt:=top 36
abbrev jW:Stmt:=top 37
abbrev ik:Stmt:=top 38
abbrev gl:Stmt:=top 39
abbrev dl:Stmt:=top 40
abbrev fT:Stmt:=top 41
abbrev ck:Stmt:=top 42
abbrev fV:Stmt:=top 43
abbrev dt:Stmt:=top 44
abbrev fb:Stmt:=top 45
abbrev ix:Stmt:=top 46
abbrev iL:Stmt:=top 47
abbrev fo:Stmt:=top 48
abbrev gq:Stmt:=top 49
abbrev fy:Stmt:=top 50
abbrev d9:Stmt:=top 51
abbrev jE:Stmt:=top 52
abbrev slaw:Stmt:=top 53
structure Bl(K:PySem.W.Frag)(mg:Str->Option Value):Prop where
 len:mg "len" = none
 abs:mg "abs" = none
 range:mg "range" = none
 list:mg "list" = none
 tuple:mg "tuple" = none
 int:mg "int" = none
 sum:mg "sum" = none
 zip:mg "zip" = none
 min:mg "min" = none
 max:mg "max" = none
 enumerate:mg "enumerate" = none
 repr:mg "repr" = none
 c_WHOLE_TURN:ConM K mg "WHOLE_TURN" (.tuple (([1,1]:List Int).map .int))
theorem dq:au ["one","other"] ["one","other"] (ad cF):=by walk_at"sc"
theorem fc:au ["top","bottom","divisor"] ["top","bottom"] (ad fj):=by walk_at"sc"
theorem oZ:au ["one","other"] ["one","other"] (ad ir):=by walk_at"sc"
theorem uW:au ["one","other"] ["one","other"] (ad lp):=by walk_at"sc"
theorem w9:au ["one","other"] ["one","other"] (ad mq):=by walk_at"sc"
theorem bV:au ["pairs","bottom","thing","fraction"] ["pairs"] (ad cG):=by walk_at"sc"
theorem bH:au ["hall","lines","place","many","server"] ["hall","lines"] (ad db):=by walk_at"sc"
theorem ce:au ["lines","order","best","line"] ["lines","order"] (ad dh):=by walk_at"sc"
theorem jB:au ["hall","lines","line","top","bottom"] ["hall","lines","line"] (ad lM):=by walk_at"sc"
theorem br:au ["hall","lines","order","best","least","line","wait"] ["hall","lines","order"] (ad dm):=by walk_at"sc"
theorem gZ:au ["hall","rule","stand","order","lines","turn","word"] ["hall","rule","stand","order"] (ad ll):=by walk_at"sc"
theorem lU:au ["hall"] ["hall"] (ad fm):=by walk_at"sc"
theorem cQ:au ["hall","many","orders","place"] ["hall"] (ad d5):=by walk_at"sc"
theorem ph:au ["lines","line","more"] ["lines","line","more"] (ad iQ):=by walk_at"sc"
theorem vh:au ["hall","lines","line"] ["hall","lines","line"] (ad l8):=by walk_at"sc"
theorem vd:au ["lines","line"] ["lines","line"] (ad lZ):=by walk_at"sc"
theorem oI:au ["hall","lines"] ["hall","lines"] (ad gx):=by walk_at"sc"
theorem gz:au ["hall","lines","shift"] ["hall","lines"] (ad l7):=by walk_at"sc"
theorem ma:au ["hall","rule","turn"] ["hall","rule","turn"] (ad fu):=by walk_at"sc"
theorem ub:au ["hall","rule","stand","move"] ["hall","rule","stand","move"] (ad md):=by walk_at"sc"
theorem bI:au ["hall","rule","stand","move","lines","turn","word","line"] ["hall","rule","stand","move"] (ad jR):=by walk_at"sc"
theorem aW:au ["hall","come","servers","moved","orders","each","shares","rest","line","server"] ["hall"] (ad dw):=by walk_at"sc"
theorem aG:au ["hall","rule","weights","moves","whole","stands","words","stand","weight","move","share","behind","word"] ["hall","rule","weights"] (ad de):=by walk_at"sc"
theorem bh:au ["hall","rule","turns","weights","bottom","served","away","turn","words","whole","many"] ["hall","rule","turns"] (ad ib):=by walk_at"sc"
theorem oY:au ["_law_script"] ["_law_script"] (ad iJ):=by walk_at"sc"
theorem cg:au ["_law_tape_here","_law_many","_law_found","_law_at","_law_cell","_law_mixed"] ["_law_tape_here","_law_many"] (ad im):=by walk_at"sc"
theorem iA:au ["_law_top","_law_bottom","_law_one","_law_other"] ["_law_top","_law_bottom"] (ad jW):=by walk_at"sc"
theorem po:au ["_law_one","_law_other"] ["_law_one","_law_other"] (ad ik):=by walk_at"sc"
theorem mD:au ["_law_one","_law_other"] ["_law_one","_law_other"] (ad gl):=by walk_at"sc"
theorem dB:au ["_law_tape_here","_law_many","_law_most","_law_parts_here","_law_rest"] ["_law_tape_here","_law_many"] (ad dl):=by walk_at"sc"
theorem bw:au ["_law_tape_here","_law_menu","_law_rooms","_law_shares","_law_speeds","_law_slowest","_law_speed","_law_servers"] ["_law_tape_here","_law_menu"] (ad fT):=by walk_at"sc"
theorem bc:au ["_law_hall_here","_law_found","_law_speed","_law_room","_law_longer","_law_lines"] ["_law_hall_here"] (ad ck):=by walk_at"sc"
theorem j6:au ["_law_tape_here","_law_hall_here","_law_word"] ["_law_tape_here","_law_hall_here"] (ad fV):=by walk_at"sc"
theorem bZ:au ["_law_many","_law_found","_law_turn","_law_longer","_law_order"] ["_law_many"] (ad dt):=by walk_at"sc"
theorem bv:au ["_law_hall_here","_law_lines","_law_order","_law_best","_law_k","_law_one","_law_other","_law_mine"] ["_law_hall_here","_law_lines","_law_order"] (ad fb):=by walk_at"sc"
theorem bU:au ["_law_hall_here","_law_rule_here","_law_stand","_law_order","_law_lines","_law_turn","_law_some","_law_best","_law_k"] ["_law_hall_here","_law_rule_here","_law_stand","_law_order"] (ad ix):=by walk_at"sc"
theorem qk:au ["_law_lines","_law_k","_law_many"] ["_law_lines","_law_k","_law_many"] (ad iL):=by walk_at"sc"
theorem e9:au ["_law_hall_here","_law_lines"] ["_law_hall_here","_law_lines"] (ad fo):=by walk_at"sc"
theorem cP:au ["_law_hall_here","_law_rule_here","_law_stand","_law_order","_law_lines","_law_turn","_law_k"] ["_law_hall_here","_law_rule_here","_law_stand","_law_order"] (ad gq):=by walk_at"sc"
theorem aH:au ["_law_hall_here","_law_rule_here","_law_stand","_law_lines","_law_turn","_law_orders_here","_law_found","_law_order","_law_later","_law_word","_law_rest","_law_k","_law_speed","_law_less"] ["_law_hall_here","_law_rule_here","_law_stand"] (ad fy):=by walk_at"sc"
theorem n9:au ["_law_hall_here"] ["_law_hall_here"] (ad d9):=by walk_at"sc"
theorem aU:au ["_law_hall_here","_law_rule_here","_law_turns","_law_shares","_law_served","_law_away","_law_turn","_law_ahead","_law_stand","_law_later","_law_word","_law_part","_law_amount","_law_many"] ["_law_hall_here","_law_rule_here","_law_turns"] (ad jE):=by walk_at"sc"
theorem dW:au ["_law_script","_law_tape_here","_law_menu","_law_k","_law_hall_here","_law_rule_here","_law_most","_law_turns","_law_counts","_law_known","_law_many","_law_told","_law_whole"] ["_law_script"] (ad slaw):=by walk_at"sc"
theorem uY{k:Nat}{ds:List PyData}{g:WG}{w:WS}{D:cZ}{m1:MSt}(P:Nat->MSt->Prop)(p0:P 0 (m1.setN (max m1.np (k+1))))(ok:∀i m,P i m->m.os[k]?=some ds)
  (step:∀(i:Nat) (d:PyData) (m:MSt),ds[i]?=some d->m.np=max m1.np (k+1)->P i m->∀D':cZ,(∀m',P (i+1) m'->D'.nx m')->g d m fun m2=>w D' m2)
  (fin:∀m,m.np=max m1.np (k+1)->P ds.length m->D.nx (m.setN m1.np)):gL ⟨ds,some k⟩ g w D m1:=iE P p0 ok (fun i d m e n p=>step i d m e n p _ fun _ z=>z) fin
def menu35:List (List Nat):=[[1],[3],[1,1],[2,1],[1,2],[2,2],[3,2],[1,1,1],[1,2,1],[1,1,1,1]]
theorem uU:zG menu35:=by
 refine⟨by decide,by decide,?_⟩;decide
def knD(h:Hall)(r:Rule)(ks:List Nat):List (PyData×PyData):=ks.map fun(c:Nat)=>(.int (c:Int),mnD h r c)
def nU(mv:Bool):Hall:=⟨1,4,[⟨1,4,6⟩,⟨1,8,6⟩,⟨1,8,6⟩],mv⟩
theorem wx(mv:Bool):(nU mv).Ok:=by
 refine⟨by show 1≤1;omega,by show 1<1000000;omega,by show 1≤4;omega,by show 4<1000000;omega,by show 1≤3;omega,by show 3≤4;omega,fun s hs=>?_⟩;have:s=⟨1,4,6⟩\/s=⟨1,8,6⟩\/s=⟨1,8,6⟩:=by simpa[nU]using hs
 rcases this with rfl|rfl|rfl<;>exact⟨by decide,by decide,by decide,by decide,by decide,by decide⟩
theorem uQ(mv:Bool):OfS (nU mv) 8:=by
 refine⟨by decide,by decide,by show 4 ∣ 8;decide,fun s hs=>?_,?_⟩
 .have:s=⟨1,4,6⟩\/s=⟨1,8,6⟩\/s=⟨1,8,6⟩:=by simpa[nU]using hs
  rcases this with rfl|rfl|rfl
  .show 4 ∣ 8;decide
  .show 8 ∣ 8;decide
  .show 8 ∣ 8;decide
 .cases mv<;>decide +kernel
theorem pg(h:Hall)(r:Rule)(c:Nat):∀ks:List Nat,cc (.int (c:Int)) (knD h r ks)=if c∈ks then some (mnD h r c)else none
 |[]=>by rw[if_neg (by simp)];rfl
 | x::ks=>by
  show(if PyData.eqv (.int (x:Int)) (.int (c:Int))=true then some (mnD h r x)else cc (.int (c:Int)) (knD h r ks))=_;rw[cb,pg h r c ks]
  by_cases e:x=c
  .subst e;rw[if_pos (decide_eq_true rfl),if_pos List.mem_cons_self]
  .rw[if_neg (by rw[decide_eq_false e];decide)]
   by_cases m:c∈ks
   .rw[if_pos m,if_pos (List.mem_cons_of_mem _ m)]
   .rw[if_neg m,if_neg (fun z=>(List.mem_cons.mp z).elim (fun y=>e y.symm) m)]
theorem zT(h:Hall)(r:Rule)(c:Nat):∀ks:List Nat,c∉ks->putP (.int (c:Int)) (mnD h r c) (knD h r ks)=knD h r (ks++[c])
 |[],_=>rfl
 |x::ks,hm=>by
  have e:x≠c:=fun z=>hm (z▸List.mem_cons_self);have ih:=zT h r c ks fun z=>hm (List.mem_cons_of_mem _ z);show(if PyData.eqv (.int (x:Int)) (.int (c:Int))=true then _ else(.int (x:Int),mnD h r x)::putP (.int (c:Int)) (mnD h r c) (knD h r ks))=_;rw[cb,if_neg (by rw[decide_eq_false e];decide),ih];rfl
theorem yf(h:Hall)(r:Rule)(ks:List Nat):isKd (knD h r ks)=true:=by
 unfold knD isKd;rw[List.all_map];exact List.all_eq_true.mpr fun _ _=>rfl
theorem uE{tu mo:Nat}(h1:tu≤mo)(h2:mo≤12):∀c∈[tu,mo-tu,0,tu],c≤12:=fun c hc=>by
 rcases List.mem_cons.mp hc with z|z1
 .omega
 rcases List.mem_cons.mp z1 with z|z2
 .omega
 rcases List.mem_cons.mp z2 with z|z3
 .omega
 have:=List.mem_singleton.mp z3;omega
section
variable {P:Program}{w:World}{K:PySem.W.Frag}{mg:Str->Option Value}{base:Heap}
theorem g9(T:Bl K mg)(D:DefM K mg "greatest_divisor" cF ["one","other"]):FnM P w K mg base "greatest_divisor" 1 2 Dy:=by
 refine aQ D dq rfl (nN:=2) rfl (by decide) ?ar fun cdv A outer s H E f hr=>⟨_,(mz' (ia (ak (ou hr.units) (mv' 1) mh' (az _)) (aa (jI (i:=0) (j:=1) dq.nd rfl rfl (by decide) rfl rfl (mc' (mv' 1) (mc' (ac cV (mv' 0) (mv' 1)) mn')) rfl)) PassesOwn.never)
   (aa (ah (mv' 0)))),?_⟩
 case ar=>rintro as Kc ⟨a,b,rfl,_⟩;rfl
 rintro as Kc hl ⟨a,b,rfl,k⟩;refine ai (MSt.mk [some (.imm (.int a)),some (.imm (.int b))] [] 0) rfl ?_;walk_at"xs";refine lu (fun n m=>∃x y:Nat,m=MSt.mk [some (.imm (.int x)),some (.imm (.int y))] [] 0/\x.gcd y=a.gcd b/\n=y) b ⟨a,b,rfl,rfl,rfl⟩ ?_;rintro n m hn ⟨x,y,rfl,hg,rfl⟩;walk_at"xs";refine aA (fun hpos=>?_) (fun hz=>?_)
 .have hy:0<n:=by omega
  walk_at"xs";have h2:=Nat.mod_lt x hy;exact⟨x%n,h2,n,x%n,rfl,by rw[Nat.gcd_comm,<-Nat.gcd_rec,Nat.gcd_comm,hg],rfl⟩
 .have hy0:n=0:=by omega
  subst hy0;rw[Nat.gcd_zero_right]at hg;walk_at"xs";rw[hg];exact k
theorem lR(T:Bl K mg)(D:DefM K mg "fraction_of" fj ["top","bottom"])(Ggreatest_divisor:FnM P w K mg base "greatest_divisor" 1 2 Dy):FnM P w K mg base "fraction_of" 2 2 xV:=by
 refine aQ D fc rfl (nN:=3) rfl (by decide) ?ar fun cdv A outer s H E f hr=>⟨_,(mz' (aM (ak (ba hr.units) (mv' 1) mh' (az _)) (aa vE) am)
   (mz' (aM (ak i7 (mv' 1) mh' (az _)) (aa (jI (i:=0) (j:=1) fc.nd rfl rfl (by decide) rfl rfl (mc' (jF gm (mv' 0)) (mc' (jF gm (mv' 1)) mn')) rfl)) am)
   (mz' (ag 2 fc.nd (mf' Ggreatest_divisor (hr.mono (by decide)) (mc' (al ng (by rfl) T.abs zQ (mc' (mv' 0) mn')) (mc' (mv' 1) mn'))))
   (aa (ah (ae (mc' (ac c5 (mv' 0) (mv' 2)) (mc' (ac c5 (mv' 1) (mv' 2)) mn')))))))),?_⟩
 case ar=>rintro as Kc ⟨a,b,rfl,_⟩;rfl
 rintro as Kc hl ⟨t,b,rfl,hb,ht,hb1,k⟩;refine ai (MSt.mk [some (.imm (.int t)),some (.imm (.int b)),none] [] 0) rfl ?_;have g1:0<t.natAbs.gcd b.natAbs:=Nat.gcd_pos_of_pos_right _ (by omega);have g2:t.natAbs.gcd b.natAbs<10^160:=Nat.lt_of_le_of_lt (Nat.gcd_le_right _ (by omega)) hb1;unfold nf nfP at k;walk_at"xs";refine aA (fun z=>absurd z hb) (fun _=>?_);walk_at"xs";refine aA (fun z=>?_) (fun z=>?_)
 .rw[if_pos z]at k;walk_at"xs";refine⟨t.natAbs,b.natAbs,by rw[show(if -t<0 then - -t else -t)=(t.natAbs:Int) by split<;>omega,show -b=(b.natAbs:Int) by omega],?_⟩;walk_at"xn";refine bJ ?_;walk_at"xx";refine gQ (cfdB g1 g2) ?_;walk_at"xs";refine gQ (cfdB g1 g2) ?_;walk_at"xs";exact k
 .rw[if_neg z]at k;walk_at"xs";refine⟨t.natAbs,b.natAbs,by rw[show(if t<0 then -t else t)=(t.natAbs:Int) by split<;>omega,show(b.natAbs:Int)=b by omega],?_⟩;walk_at"xn";refine bJ ?_;walk_at"xx";refine gQ (cfdB g1 g2) ?_;walk_at"xs";refine gQ (cfdB g1 g2) ?_;walk_at"xs";exact k
theorem pv(T:Bl K mg)(D:DefM K mg "taken_off" ir ["one","other"])(Gfraction_of:FnM P w K mg base "fraction_of" 2 2 xV):FnM P w K mg base "taken_off" 3 2 Fm:=by
 refine aQ D oZ rfl (nN:=2) rfl (by decide) ?ar fun cdv A outer s H E f hr=>⟨_,(aa (ah (mf' Gfraction_of (hr.mono (by decide)) (mc' (ac pf (ac av (ab (mv' 0) mh') (ab (mv' 1) mh')) (ac av (ab (mv' 1) mh') (ab (mv' 0) mh'))) (mc' (ac av (ab (mv' 0) mh') (ab (mv' 1) mh')) mn'))))),?_⟩
 case ar=>rintro as Kc ⟨a,b,c,d,rfl,_⟩;rfl
 rintro as Kc hl ⟨a,b,c,d,rfl,h1,h2,k⟩;refine ai (MSt.mk [some (.imm (.tuple [.int a,.int b])),some (.imm (.tuple [.int c,.int d]))] [] 0) rfl ?_;walk_at"xs";refine bC (cx (up45 h1.ha) (up45 h2.hb)) ?_;walk_at"xs";refine bC (cx (up45 h2.ha) (up45 h1.hb)) ?_;walk_at"xs";refine bC (cx (up45 h1.hb) (up45 h2.hb)) ?_;walk_at"xs";refine⟨_,_,rfl,v7 h1.hp h2.hp,F9 (fx h1.ha h2.hb) (fx h2.ha h1.hb),pI (fx h1.hb h2.hb),?_⟩;walk_at"xn";exact k
theorem xt(T:Bl K mg)(D:DefM K mg "divided" lp ["one","other"])(Gfraction_of:FnM P w K mg base "fraction_of" 2 2 xV):FnM P w K mg base "divided" 3 2 DN:=by
 refine aQ D uW rfl (nN:=2) rfl (by decide) ?ar fun cdv A outer s H E f hr=>⟨_,(aa (ah (mf' Gfraction_of (hr.mono (by decide)) (mc' (ac av (ab (mv' 0) mh') (ab (mv' 1) mh')) (mc' (ac av (ab (mv' 0) mh') (ab (mv' 1) mh')) mn'))))),?_⟩
 case ar=>rintro as Kc ⟨a,b,c,d,rfl,_⟩;rfl
 rintro as Kc hl ⟨a,b,c,d,rfl,h1,h2,hc,k⟩;refine ai (MSt.mk [some (.imm (.tuple [.int a,.int b])),some (.imm (.tuple [.int c,.int d]))] [] 0) rfl ?_;walk_at"xs";refine bC (cx (up45 h1.ha) (up45 h2.hb)) ?_;walk_at"xs";refine bC (cx (up45 h1.hb) (up45 h2.ha)) ?_;walk_at"xs";refine⟨_,_,rfl,Int.mul_ne_zero (Int.ne_of_gt h1.hp) hc,pI (fx h1.ha h2.hb),pI (fx h1.hb h2.ha),?_⟩;walk_at"xn";exact k
theorem u9(T:Bl K mg)(D:DefM K mg "is_less" mq ["one","other"]):FnM P w K mg base "is_less" 1 2 zX:=by
 refine aQ D w9 rfl (nN:=2) rfl (by decide) ?ar fun cdv A outer s H E f hr=>⟨_,(aa (ah (iI i7 (ac av (ab (mv' 0) mh') (ab (mv' 1) mh')) (ac av (ab (mv' 1) mh') (ab (mv' 0) mh')) (az _)))),?_⟩
 case ar=>rintro as Kc ⟨a,b,c,d,rfl,_⟩;rfl
 rintro as Kc hl ⟨a,b,c,d,rfl,ha,hb,hc,hd,k⟩;refine ai (MSt.mk [some (.imm (.tuple [.int a,.int b])),some (.imm (.tuple [.int c,.int d]))] [] 0) rfl ?_;walk_at"xs";have e:decide ((a:Int)*(d:Int)<(c:Int)*(b:Int))=decide (a*d<c*b):=by
  rw[<-Int.natCast_mul,<-Int.natCast_mul];exact decide_eq_decide.mpr Int.ofNat_lt
 rw[e];exact k
theorem jM(T:Bl K mg)(D:DefM K mg "on_one_bottom" cG ["pairs"])(Ggreatest_divisor:FnM P w K mg base "greatest_divisor" 1 2 Dy):FnM P w K mg base "on_one_bottom" 2 1 sf:=by
 refine aQ D bV rfl (nN:=4) rfl (by decide) ?ar fun cdv A outer s H E f hr=>⟨_,(mz' (cU (i:=1) bV.nd rfl (Or.inr rfl) mh')
   (mz' (bf (bG (mv' 0)) (bo (n:=2) (af (ap 2 bV.nd) (af (ap 3 bV.nd) aY))) (aa (cU (i:=1) bV.nd rfl (Or.inr rfl) (ac av (mv' 1) (ac c5 (ab (mv' 3) mh') (mf' Ggreatest_divisor (hr.mono (by decide)) (mc' (mv' 1) (mc' (ab (mv' 3) mh') mn'))))))) PassesOwn.never)
   (aa (ah (ae (mc' (dG (cp (own:=["thing","fraction"]) (fr:=["bottom"]) (ps:=[1]) (sc:=(ad cG)) (by exact⟨rfl,by decide +kernel,by decide +kernel,by decide +kernel,by decide +kernel⟩) (bG (mv' 0)) (fun _ _ _ _ _=>(bo (n:=2) (af (ap 0 (show List.Nodup ((["thing","fraction"]:List Str)++(["bottom"]:List Str))from by decide +kernel)) (af (ap 1 (show List.Nodup ((["thing","fraction"]:List Str)++(["bottom"]:List Str))from by decide +kernel)) aY)))) (fun _ _ _ _ _=>cJ) (fun _ _ _ _ _=>(ae (mc' (mv' 0) (mc' (ac av (ab (mv' 1) mh') (ac c5 (mv' 2) (ab (mv' 1) mh'))) mn')))))) (mc' (mv' 1) mn'))))))),?_⟩
 case ar=>rintro as Kc ⟨L,B,rfl,_⟩;rfl
 rintro as Kc hl ⟨L,B,rfl,hP,k⟩;refine ai (MSt.mk [some (.imm (.list (prsD L))),none,none,none] [] 0) rfl ?_;walk_at"xs";refine bu (fun i m=>∃a b:Option L2.R,m=MSt.mk [some (.imm (.list (prsD L))),some (.imm (.int (botL (L.take i):Int))),a,b] [] 0) ⟨none,none,rfl⟩ ?_ ?_
 .rintro i d m e hnp ⟨a,b,rfl⟩ D1 hD1 hR1;obtain⟨p,ep,rfl,hi⟩:=gmap e;have hp:=hP.d p (List.mem_of_getElem? ep);have hb:=hP.pre i;walk_at"xs"
  .rfl
  walk_at"xs";refine⟨botL (L.take i),p.2.2,rfl,?_⟩;have g1:0<(botL (L.take i)).gcd p.2.2:=Nat.gcd_pos_of_pos_right _ hp.1;have g2:(botL (L.take i)).gcd p.2.2≤botL (L.take i):=Nat.gcd_le_left _ hb.1;have pB:p.2.2<10^76:=Nat.lt_of_le_of_lt (Nat.le_of_dvd hP.b0 hp.2.1) hP.b;walk_at"xx";refine gQ (cfdB g1 (Nat.lt_of_le_of_lt g2 (Nat.lt_trans hb.2 (by decide)))) ?_;rw[<-Int.natCast_ediv];refine bC (cx (by rw[Int.natAbs_natCast];exact Nat.lt_trans hb.2 (by decide)) (by rw[Int.natAbs_natCast];exact Nat.lt_of_le_of_lt (Nat.div_le_self _ _) (Nat.lt_trans pB (by decide)))) ?_;have es:botL (L.take (i+1))=botL (L.take i)*(p.2.2/(botL (L.take i)).gcd p.2.2):=by
   rw[List.take_succ,ep,<-BT _ _ hp.1];exact xl _ _
  walk_at"xs";refine hD1 _ (show ∃a b:Option L2.R,_=MSt.mk [some (.imm (.list (prsD L))),some (.imm (.int (botL (L.take (i+1)):Int))),a,b] [] 0 from⟨some (.imm p.1),some (.imm (.tuple [.int p.2.1,.int (p.2.2:Int)])),?_⟩);rw[es,Int.natCast_mul];rfl
 .rintro m hnp ⟨a,b,rfl⟩;have ef:L.take (prsD L).length=L:=by unfold prsD;rw[List.length_map];exact List.take_length
  have bL:1≤botL L/\botL L<10^76:=by have:=hP.pre L.length;rwa[List.take_length]at this
  rw[ef];walk_at"xs";refine bu (fun i m=>∃a b:Option L2.R,m=MSt.mk [a,b,some (.imm (.int (botL L:Int)))] [(onB L).take i] 1) ⟨none,none,rfl⟩ ?_ ?_
  .rintro i d m e hnp ⟨a,b,rfl⟩ D1 hD1 hR1;obtain⟨p,ep,rfl,hi⟩:=gmap e;have hp:=hP.d p (List.mem_of_getElem? ep);have hn:=hP.n;have pB:p.2.2<10^76:=Nat.lt_of_le_of_lt (Nat.le_of_dvd hP.b0 hp.2.1) hP.b;walk_at"xs"
   .rfl
   walk_at"xs";refine gQ (cfdB hp.1 (Nat.lt_trans pB (by decide))) ?_;rw[<-Int.natCast_ediv];refine bC (cx (Nat.lt_trans hp.2.2 (by decide)) (by rw[Int.natAbs_natCast];exact Nat.lt_of_le_of_lt (Nat.div_le_self _ _) (Nat.lt_trans bL.2 (by decide)))) ?_;walk_at"xx";refine⟨_,rfl,by rw[List.length_take,sizeLine_eq];omega,hD1 _ ⟨some (.imm p.1),some (.imm (.tuple [.int p.2.1,.int (p.2.2:Int)])),?_⟩⟩;have eo:(onB L)[i]?=some (.tuple [p.1,.int (p.2.1*((botL L/p.2.2:Nat):Int))]):=by unfold onB;rw[List.getElem?_map,ep];rfl
   rw[List.take_succ,eo];rfl
  .rintro m hnp ⟨a,b,rfl⟩;have ef2:(onB L).take (prsD L).length=onB L:=by
    have:(prsD L).length=(onB L).length:=by unfold prsD onB;rw[List.length_map,List.length_map]
    rw[this];exact List.take_length
   rw[ef2];walk_at"xx";exact k
theorem je(T:Bl K mg)(D:DefM K mg "place_of_lines" db ["hall","lines"]):FnM P w K mg base "place_of_lines" 1 2 vz:=by
 refine aQ D bH rfl (nN:=5) rfl (by decide) ?ar fun cdv A outer s H E f hr=>⟨_,(mz' (ag 2 bH.nd mh')
   (mz' (bf (Cp T.zip (mc' (mv' 1) (mc' (ab (mv' 0) mh') mn'))) (bo (n:=2) (af (ap 3 bH.nd) (af (ap 4 bH.nd) aY))) (aa (ag 2 bH.nd (ac aI (ac av (mv' 2) (ac aI (ab (mv' 4) mh') mh')) (mv' 3)))) PassesOwn.never)
   (aa (ah (mv' 2))))),?_⟩
 case ar=>rintro as Kc ⟨h,l,rfl,_⟩;rfl
 rintro as Kc hl ⟨h,l,rfl,ho,hL,k⟩;refine ai (MSt.mk [some (.imm (.tuple [.tuple [.int h.a,.int h.b],.tuple (h.ss.map Srv.d),.bool h.mv])),some (.imm (.tuple (natD l))),none,none,none] [] 0) rfl ?_;walk_at"xs";refine⟨true,_,true,_,rfl,rfl,?_⟩;refine dI (fun i m=>∃a b,m=MSt.mk [some (.imm (.tuple [.tuple [.int h.a,.int h.b],.tuple (h.ss.map Srv.d),.bool h.mv])),some (.imm (.tuple (natD l))),some (.imm (.int (M7.placeF 0 (h.rs.take i) (l.take i):Nat))),a,b] [] 0) ⟨none,none,rfl⟩ ?_ ?_
 .rintro i d m e n ⟨a,b,rfl⟩;obtain⟨a1,b1,e1,e2,rfl⟩:=AW e;obtain⟨x,ex,rfl,hi⟩:=gmap e1;obtain⟨s,es,rfl,hj⟩:=gmap e2;have r6:=(ho.ok s (List.mem_of_getElem? es)).r6;rw[M7.placeF_take (Hall.rs_get es) ex];dsimp only[Srv.d];walk_at"xs"
  .rfl
  walk_at"xs";generalize M7.placeF 0 (h.rs.take i) (l.take i)=P;have ec:(P:Int)*((s.r:Int)+1)+(x:Int)=((P*(s.r+1)+x:Nat):Int):=by
   rw[Int.natCast_add,Int.natCast_mul,Int.natCast_add];rfl
  rw[ec];exact⟨_,_,rfl⟩
 .rintro m n ⟨a,b,rfl⟩;have e1:min (natD l).length (h.ss.map Srv.d).length=l.length:=by rw[aq,List.length_map];have:=hL.1;omega
  rw[d8,e1];have e2:h.rs.take l.length=h.rs:=by rw[hL.1,<-h.rsl];exact List.take_length
  rw[e2,List.take_length];walk_at"xs";exact k
theorem jh(T:Bl K mg)(D:DefM K mg "first_shortest" dh ["lines","order"]):FnM P w K mg base "first_shortest" 1 2 kU:=by
 refine aQ D ce rfl (nN:=4) rfl (by decide) ?ar fun cdv A outer s H E f hr=>⟨_,(mz' (ag 2 ce.nd (ab (mv' 1) mh'))
   (mz' (bf (bG (mv' 1)) (ap 3 ce.nd) (aa (aM (ak i7 (ab (mv' 0) (mv' 3)) (ab (mv' 0) (mv' 2)) (az _)) (aa (ag 2 ce.nd (mv' 3))) am)) PassesOwn.never)
   (aa (ah (mv' 2))))),?_⟩
 case ar=>rintro as Kc ⟨l,o,rfl,_⟩;rfl
 rintro as Kc hl ⟨l,o,rfl,hO,k⟩;obtain⟨o0,os,rfl,h0⟩:=hO.cons;refine ai (MSt.mk [some (.imm (.tuple (natD l))),some (.imm (.tuple (natD (o0::os)))),none,none] [] 0) rfl ?_;walk_at"xs";refine aD (ay (j:=0) (aF rfl)) ?_;walk_at"xs";refine dI (fun i m=>∃a,m=MSt.mk [some (.imm (.tuple (natD l))),some (.imm (.tuple (natD (o0::os)))),some (.imm (.int (M7.pick (bg l) o0 ((o0::os).take i):Nat))),a] [] 0) ⟨none,rfl⟩ ?_ ?_
 .rintro i d m e n ⟨a,rfl⟩;obtain⟨j,ej,rfl,hi⟩:=gmap e;have hj:=hO.lt j (List.mem_of_getElem? ej);have hb:M7.pick (bg l) o0 ((o0::os).take i)<l.length:=fB hO i;have et:(o0::os).take (i+1)=(o0::os).take i++[j]:=by rw[List.take_add_one,ej];rfl
  rw[et,M7.pick_app];generalize M7.pick (bg l) o0 ((o0::os).take i)=b at hb;walk_at"xs";refine aD (ay (aF (getN rfl hj))) ?_;walk_at"xs";refine aD (ay (aF (getN rfl hb))) ?_;walk_at"xs";refine aA (fun h=>?_) (fun h=>?_)
  .walk_at"xs";rw[if_pos (show bg l j b=true from decide_eq_true (by omega))];exact⟨_,rfl⟩
  .walk_at"xs";rw[if_neg (show ¬bg l j b=true by unfold bg;rw[decide_eq_true_eq];omega)];exact⟨_,rfl⟩
 .rintro m n ⟨a,rfl⟩;rw[aq,List.take_length];walk_at"xs";exact k
theorem vC(T:Bl K mg)(D:DefM K mg "wait_at" lM ["hall","lines","line"]):FnM P w K mg base "wait_at" 1 3 zN:=by
 refine aQ D jB rfl (nN:=5) rfl (by decide) ?ar fun cdv A outer s H E f hr=>⟨_,(mz' (cC (ab (ab (ab (mv' 0) mh') (mv' 2)) mh') (bo (n:=2) (af (ap 3 jB.nd) (af (ap 4 jB.nd) aY))))
   (aa (ah (ae (mc' (ac av (ac aI (ab (mv' 1) (mv' 2)) mh') (mv' 4)) (mc' (mv' 3) mn')))))),?_⟩
 case ar=>rintro as Kc ⟨h,l,j,rfl,_⟩;rfl
 rintro as Kc hl ⟨h,l,j,rfl,ho,hL,hj,k⟩;obtain⟨s,es,ea,eb,hs⟩:=h.srv hj;have so:=ho.ok s hs;have b2:=so.b2;rw[ea,eb]at k;have el:=getN hL.1 hj;refine ai (MSt.mk [some (.imm (.tuple [.tuple [.int h.a,.int h.b],.tuple (h.ss.map Srv.d),.bool h.mv])),some (.imm (.tuple (natD l))),some (.imm (.int (j:Int))),none,none] [] 0) rfl ?_;walk_at"xs";refine aD (d:=s.d) (ay (by rw[List.getElem?_map,es];rfl)) ?_;dsimp only[Srv.d];walk_at"xs"
 .rfl
 walk_at"xs";refine aD (ay (aF el)) ?_;walk_at"xs";have e:(((l.getD j 0:Nat):Int)+1)*(s.b:Int)=(((l.getD j 0+1)*s.b:Nat):Int):=by
  rw[Int.natCast_mul,Int.natCast_add];rfl
 rw[e];exact k
theorem jf(T:Bl K mg)(D:DefM K mg "first_quickest" dm ["hall","lines","order"])(Gwait_at:FnM P w K mg base "wait_at" 1 3 zN)(Gis_less:FnM P w K mg base "is_less" 1 2 zX):FnM P w K mg base "first_quickest" 2 3 ig:=by
 refine aQ D br rfl (nN:=7) rfl (by decide) ?ar fun cdv A outer s H E f hr=>⟨_,(mz' (ag 3 br.nd (ab (mv' 2) mh'))
   (mz' (ag 4 br.nd (mf' Gwait_at (hr.mono (by decide)) (mc' (mv' 0) (mc' (mv' 1) (mc' (mv' 3) mn')))))
   (mz' (bf (bG (mv' 2)) (ap 5 br.nd) (mz' (ag 6 br.nd (mf' Gwait_at (hr.mono (by decide)) (mc' (mv' 0) (mc' (mv' 1) (mc' (mv' 5) mn')))))
   (aa (aM (oX (mf' Gis_less (hr.mono (by decide)) (mc' (mv' 6) (mc' (mv' 4) mn')))) (aa (jI (i:=3) (j:=4) br.nd rfl rfl (by decide) rfl rfl (mc' (mv' 5) (mc' (mv' 6) mn')) rfl)) am))) PassesOwn.never)
   (aa (ah (mv' 3)))))),?_⟩
 case ar=>rintro as Kc ⟨h,l,o,rfl,_⟩;rfl
 rintro as Kc hl ⟨h,l,o,rfl,ho,hL,hO,k⟩;obtain⟨o0,os,rfl,h0⟩:=hO.cons;have bd:∀j,j<h.ss.length->(l.getD j 0+1)*h.bn j<1000000000000/\h.an j<1000000000000:=fun j hj=>by
  obtain⟨s,es,ea,eb,hs⟩:=h.srv hj;have so:=ho.ok s hs;have h6:=hL.le ho _ (List.mem_of_getElem? (getN hL.1 hj));rw[ea,eb];have:=so.a2;have:(l.getD j 0+1)*s.b≤7*1000000:=Nat.mul_le_mul (by omega) (by have:=so.b2;omega);omega
 refine ai (MSt.mk [some (.imm h.d),some (.imm (.tuple (natD l))),some (.imm (.tuple (natD (o0::os)))),none,none,none,none] [] 0) rfl ?_;walk_at"xs";refine aD (ay (j:=0) (aF rfl)) ?_;walk_at"xs";refine⟨h,l,o0,rfl,ho,hL,h0,?_⟩;walk_at"xx";refine dI (fun i m=>∃a b,m=MSt.mk [some (.imm h.d),some (.imm (.tuple (natD l))),some (.imm (.tuple (natD (o0::os)))),some (.imm (.int (M7.pick (bF h l) o0 ((o0::os).take i):Nat))),some (.imm (frD ((l.getD (M7.pick (bF h l) o0 ((o0::os).take i)) 0+1)*h.bn (M7.pick (bF h l) o0 ((o0::os).take i)):Nat) (h.an (M7.pick (bF h l) o0 ((o0::os).take i)):Nat))),a,b] [] 0) ⟨none,none,rfl⟩ ?_ ?_
 .rintro i d m e n ⟨a,b,rfl⟩;obtain⟨j,ej,rfl,hi⟩:=gmap e;have hj:=hO.lt j (List.mem_of_getElem? ej);have hb:M7.pick (bF h l) o0 ((o0::os).take i)<h.ss.length:=fB hO i;have et:(o0::os).take (i+1)=(o0::os).take i++[j]:=by rw[List.take_add_one,ej];rfl
  rw[et,M7.pick_app];generalize M7.pick (bF h l) o0 ((o0::os).take i)=b at hb;walk_at"xs";refine⟨h,l,j,rfl,ho,hL,hj,?_⟩;walk_at"xx";obtain⟨b1,b2⟩:=bd j hj;obtain⟨b3,b4⟩:=bd b hb;refine⟨_,_,_,_,rfl,b1,b2,b3,b4,?_⟩;walk_at"xx";refine aA (fun q=>?_) (fun q=>?_)
  .walk_at"xs";rw[if_pos (show bF h l j b=true from decide_eq_true q)];exact⟨_,_,rfl⟩
  .walk_at"xs";rw[if_neg (show ¬bF h l j b=true by unfold bF;rw[decide_eq_true_eq];exact q)];exact⟨_,_,rfl⟩
 .rintro m n ⟨a,b,rfl⟩;rw[aq,List.take_length];walk_at"xs";exact k
theorem xm(T:Bl K mg)(D:DefM K mg "sent_to" ll ["hall","rule","stand","order"])(Gfirst_shortest:FnM P w K mg base "first_shortest" 1 2 kU)(Gfirst_quickest:FnM P w K mg base "first_quickest" 2 3 ig)(Gplace_of_lines:FnM P w K mg base "place_of_lines" 1 2 vz):FnM P w K mg base "sent_to" 3 4 jp:=by
 refine aQ D gZ rfl (nN:=7) rfl (by decide) ?ar fun cdv A outer s H E f hr=>⟨_,(mz' (cC (mv' 2) (bo (n:=2) (af (ap 4 gZ.nd) (af (ap 5 gZ.nd) aY))))
   (mz' (ag 6 gZ.nd (ab (mv' 1) mh'))
   (mz' (aM (ak (ba hr.units) (mv' 6) aB (az _)) (aa (ah (ab (mv' 3) mh'))) am)
   (mz' (aM (ak (ba hr.units) (mv' 6) aB (az _)) (aa (ah (mv' 5))) am)
   (mz' (aM (ak (ba hr.units) (mv' 6) aB (az _)) (aa (ah (mf' Gfirst_shortest (hr.mono (by decide)) (mc' (mv' 4) (mc' (dG (cu dY (mv' 3) cY (c6 mh'))) mn'))))) am)
   (mz' (aM (ak (ba hr.units) (mv' 6) aB (az _)) (aa (ah (mf' Gfirst_shortest (hr.mono (by decide)) (mc' (mv' 4) (mc' (mv' 3) mn'))))) am)
   (mz' (aM (ak (ba hr.units) (mv' 6) aB (az _)) (aa (ah (mf' Gfirst_quickest (hr.mono (by decide)) (mc' (mv' 0) (mc' (mv' 4) (mc' (mv' 3) mn')))))) am)
   (aa (ah (ab (ab (mv' 1) mh') (mf' Gplace_of_lines (hr.mono (by decide)) (mc' (mv' 0) (mc' (mv' 4) mn'))))))))))))),?_⟩
 case ar=>rintro as Kc ⟨h,r,l,t,o,rfl,_⟩;rfl
 rintro as Kc hl ⟨h,r,l,t,o,rfl,ho,hr0,hL,hO,k⟩;have hll:=hL.1;have hO':Ord l.length o:=by rw[hll];exact hO
 cases r with
 |random =>
  refine ai (MSt.mk [some (.imm h.d),some (.imm (.tuple [.str "random"])),some (.imm (.tuple [lnD l,.int (t:Int)])),some (.imm (.tuple (natD o))),none,none,none] [] 0) rfl ?_;walk_at"xs"
  .rfl
  walk_at"xs";refine aA (fun _=>?_) (fun z=>(z rfl).elim);obtain⟨o0,os,rfl,h0⟩:=hO.cons;walk_at"xs";refine aD (ay (j:=0) (aF rfl)) ?_;walk_at"xs";exact k
 |turns =>
  refine ai (MSt.mk [some (.imm h.d),some (.imm (.tuple [.str "turns"])),some (.imm (.tuple [lnD l,.int (t:Int)])),some (.imm (.tuple (natD o))),none,none,none] [] 0) rfl ?_;walk_at"xs"
  .rfl
  walk_at"xs";refine aA (fun z=>absurd z (by decide +kernel)) (fun _=>?_);walk_at"xs";refine aA (fun _=>?_) (fun z=>(z rfl).elim);walk_at"xs";exact k
 | two =>
  refine ai (MSt.mk [some (.imm h.d),some (.imm (.tuple [.str "two"])),some (.imm (.tuple [lnD l,.int (t:Int)])),some (.imm (.tuple (natD o))),none,none,none] [] 0) rfl ?_;walk_at"xs"
  .rfl
  walk_at"xs";refine aA (fun z=>absurd z (by decide +kernel)) (fun _=>?_);walk_at"xs";refine aA (fun z=>absurd z (by decide +kernel)) (fun _=>?_);walk_at"xs";refine aA (fun _=>?_) (fun z=>(z rfl).elim);walk_at"xs";have e:cutD (natD o) none (some 2)=natD (o.take 2):=by
   rw[show(2:Int)=((2:Nat):Int)from rfl,j4];simp[natD]
  rw[e];obtain⟨o0,os,rfl,h0⟩:=hO.cons;refine⟨l,(o0::os).take 2,rfl,⟨by simp,fun k hk=>hO'.lt k (List.mem_of_mem_take hk),by rw[List.length_take];omega⟩,?_⟩;walk_at"xn";exact k
 |least =>
  refine ai (MSt.mk [some (.imm h.d),some (.imm (.tuple [.str "least"])),some (.imm (.tuple [lnD l,.int (t:Int)])),some (.imm (.tuple (natD o))),none,none,none] [] 0) rfl ?_;walk_at"xs"
  .rfl
  walk_at"xs";refine aA (fun z=>absurd z (by decide +kernel)) (fun _=>?_);walk_at"xs";refine aA (fun z=>absurd z (by decide +kernel)) (fun _=>?_);walk_at"xs";refine aA (fun z=>absurd z (by decide +kernel)) (fun _=>?_);walk_at"xs";refine aA (fun _=>?_) (fun z=>(z rfl).elim);walk_at"xs";refine⟨l,o,rfl,hO',?_⟩;walk_at"xn";exact k
 |quick =>
  refine ai (MSt.mk [some (.imm h.d),some (.imm (.tuple [.str "quick"])),some (.imm (.tuple [lnD l,.int (t:Int)])),some (.imm (.tuple (natD o))),none,none,none] [] 0) rfl ?_;walk_at"xs"
  .rfl
  walk_at"xs";refine aA (fun z=>absurd z (by decide +kernel)) (fun _=>?_);walk_at"xs";refine aA (fun z=>absurd z (by decide +kernel)) (fun _=>?_);walk_at"xs";refine aA (fun z=>absurd z (by decide +kernel)) (fun _=>?_);walk_at"xs";refine aA (fun z=>absurd z (by decide +kernel)) (fun _=>?_);walk_at"xs";refine aA (fun _=>?_) (fun z=>(z rfl).elim);walk_at"xs";refine⟨h,l,o,rfl,ho,hL,hO,?_⟩;walk_at"xn";exact k
 |told ps =>
  refine ai (MSt.mk [some (.imm h.d),some (.imm (.tuple [.str "told",.tuple (natD ps)])),some (.imm (.tuple [lnD l,.int (t:Int)])),some (.imm (.tuple (natD o))),none,none,none] [] 0) rfl ?_;walk_at"xs"
  .rfl
  walk_at"xs";refine aA (fun z=>absurd z (by decide +kernel)) (fun _=>?_);walk_at"xs";refine aA (fun z=>absurd z (by decide +kernel)) (fun _=>?_);walk_at"xs";refine aA (fun z=>absurd z (by decide +kernel)) (fun _=>?_);walk_at"xs";refine aA (fun z=>absurd z (by decide +kernel)) (fun _=>?_);walk_at"xs";refine aA (fun z=>absurd z (by decide +kernel)) (fun _=>?_);walk_at"xs";refine⟨h,l,rfl,ho,hL,?_⟩;walk_at"xn";have hlt:M7.placeF 0 h.rs l<ps.length:=by rw[hr0.1,M7.allR_cnt];exact M7.place_lt hL.fits
  refine aD (ay (aF (getN rfl hlt))) ?_;exact k
theorem ml(T:Bl K mg)(D:DefM K mg "first_stand" fm ["hall"]):FnM P w K mg base "first_stand" 1 1 uy:=by
 refine aQ D lU rfl (nN:=1) rfl (by decide) ?ar fun cdv A outer s H E f hr=>⟨_,(aa (ah (ae (mc' (ac av (ae (mc' mh' mn')) (al aK (by rfl) T.len bX (mc' (ab (mv' 0) mh') mn'))) (mc' mh' mn'))))),?_⟩
 case ar=>rintro as Kc ⟨h,rfl,_⟩;rfl
 rintro as Kc hl ⟨h,rfl,ho,k⟩;have n1:=ho.n1;have n4:=ho.n4;refine ai (MSt.mk [some (.imm (.tuple [.tuple [.int h.a,.int h.b],.tuple (h.ss.map Srv.d),.bool h.mv]))] [] 0) rfl ?_;walk_at"xs";rw[List.length_map];refine z6 (by omega) (by omega) (by simp;omega) ?_;walk_at"xs";have e:(List.replicate ((h.ss.length:Nat):Int).toNat [PyData.int 0]).flatten=natD (zer h):=by
  rw[Int.toNat_natCast];simp[zer,natD]
 rw[e];exact k
theorem om(T:Bl K mg)(D:DefM K mg "all_orders" d5 ["hall"]):FnM P w K mg base "all_orders" 1 1 Ak:=by
 refine aQ D cQ rfl (nN:=4) rfl (by decide) ?ar fun cdv A outer s H E f hr=>⟨_,(mz' (cU (i:=1) cQ.nd rfl (Or.inr rfl) (al aK (by rfl) T.len bX (mc' (ab (mv' 0) mh') mn')))
   (mz' (ag 2 cQ.nd (bR (mc' (ae mn') mn')))
   (mz' (bf (bz (by rfl) T.range (mc' (mv' 1) mn')) (ap 3 cQ.nd) (aa (xr (i:=2) (own:=["ahead","line"]) (fr:=["many"]) (ps:=[1]) (sc:=(ad d5)) (by exact⟨rfl,by decide +kernel,by decide +kernel,by decide +kernel,by decide +kernel⟩) cQ.nd rfl rfl (bG (mv' 2)) (fun _ _ _ _ _=>(ap 0 (show List.Nodup ((["ahead","line"]:List Str)++(["many"]:List Str))from by decide +kernel))) (fun _ _ _ _ _=>cJ) (fun _ _ _ _ _=>(bz (by rfl) T.range (mc' (mv' 2) mn'))) (fun _ _ _ _ _=>(ap 1 (show List.Nodup ((["ahead","line"]:List Str)++(["many"]:List Str))from by decide +kernel))) (fun _ _ _ _ _=>(qL (ak (kh hr.units) (mv' 1) (mv' 0) (by with_unfolding_all rfl)))) (fun _ _ _ _ _=>(ac aI (mv' 0) (ae (mc' (mv' 1) mn')))))) PassesOwn.never)
   (aa (ah (mv' 2)))))),?_⟩
 case ar=>rintro as Kc ⟨h,rfl,_⟩;rfl
 rintro as Kc hl ⟨h,rfl,ho,k⟩;have n1:=ho.n1;have n4:=ho.n4;refine ai (MSt.mk [some (.imm (.tuple [.tuple [.int h.a,.int h.b],.tuple (h.ss.map Srv.d),.bool h.mv])),none,none,none] [] 0) rfl ?_;walk_at"xs";refine cE ?_;walk_at"xx";rw[List.length_map];refine⟨by omega,by omega,?_⟩;rw[Int.toNat_natCast];refine dI (fun i m=>∃a,m=MSt.mk [some (.imm (.tuple [.tuple [.int h.a,.int h.b],.tuple (h.ss.map Srv.d),.bool h.mv])),some (.imm (.int (h.ss.length:Nat))),some (.obj 0),a] [(ordK h.ss.length i).map lnD] 0) ⟨none,rfl⟩ ?_ ?_
 .rintro i d m e n ⟨a,rfl⟩;obtain⟨hi,rfl⟩:=bQ e;obtain⟨hk1,hk2⟩:=ci h.ss.length n4 i (by omega);have hk3:=f9 h.ss.length n4 i (by omega);rw[show ordK h.ss.length (i+1)=gu h.ss.length (ordK h.ss.length i)from rfl];generalize ordK h.ss.length i=os at hk1 hk2 hk3;walk_at"xs";walk_at"xn";refine iE (fun z m=>∃b c,m=MSt.mk [b,c,some (.imm (.int (h.ss.length:Nat)))] [os.map lnD,(gu h.ss.length (os.take z)).map lnD] 2) ⟨none,none,rfl⟩ ?_ ?_ ?_
  .rintro z m ⟨b,c,rfl⟩;rfl
  .rintro z d m ez nz ⟨b,c,rfl⟩;obtain⟨l,el,rfl,hz⟩:=gmap ez;obtain⟨hl4,hl3⟩:=hk2 l (List.mem_of_getElem? el);have hzl:=(List.getElem?_eq_some_iff.mp el).1;have hz24:=hk3 z (by omega);walk_at"xs";refine⟨by omega,by omega,?_⟩;rw[Int.toNat_natCast];obtain⟨G,hG⟩:∃G:Nat->List (List Nat),G=fun y=>gu h.ss.length (os.take z)++((List.range y).filter fun q=>!l.contains q).map fun q=>l++[q]:=⟨_,rfl⟩;have hG0:G 0=gu h.ss.length (os.take z):=by rw[hG];simp
   have hGn:G h.ss.length=gu h.ss.length (os.take (z+1)):=by rw[hG,ku el]
   have hGs:∀y,G (y+1)=G y++([y].filter fun q=>!l.contains q).map fun q=>l++[q]:=fun y=>by
    rw[hG];show _++((List.range (y+1)).filter _).map _=_;rw[List.range_succ,List.filter_append,List.map_append,List.append_assoc]
   have hGl:∀y,y≤4->(G y).length≤28:=fun y hy=>by
    rw[hG];dsimp only;rw[List.length_append,List.length_map];have:=List.length_filter_le (fun q=>!l.contains q) (List.range y);rw[List.length_range]at this;omega
   clear hG;rw[<-hG0];refine bu (fun y m=>∃c,m=MSt.mk [some (.imm (lnD l)),c,some (.imm (.int (h.ss.length:Nat)))] [os.map lnD,(G y).map lnD] 2) ⟨c,rfl⟩ ?_ ?_
   .rintro y d m ey ny ⟨c,rfl⟩ D1 hD1 hR1;obtain⟨hy,rfl⟩:=bQ ey;rw[show(0:Int)+(y:Int)=((y:Nat):Int) by omega];have hlen:=hGl y (by omega);have hin:(natD l).any (fun x=>PyData.eqv x (.int (y:Int)))=l.contains y:=by
     rw[Bool.eq_iff_iff,List.any_eq_true,List.contains_iff_mem];constructor
     .rintro⟨x,hx,ex⟩;obtain⟨w,hw,rfl⟩:=List.mem_map.mp hx;rw[cb]at ex;rw[<-of_decide_eq_true ex];exact hw
     .intro hm;exact⟨_,List.mem_map.mpr ⟨y,hm,rfl⟩,by rw[cb];exact decide_eq_true rfl⟩
    walk_at"xs";refine x_in (d:=.int (y:Int)) (ds:=natD l) rfl (.inr rfl) (d7 _) (d6 l) (by decide) ?_;walk_at"xs";rw[hin]
    cases hc:l.contains y with
    |true =>
     refine gg ?_;walk_at"xs";refine hD1 _ ⟨some (.imm (.int (y:Int))),?_⟩;rw[hGs,show([y].filter fun q=>!l.contains q)=[] by rw[List.filter_cons,hc];rfl,List.map_nil,List.append_nil];rfl
    |false =>
     refine iW ?_;walk_at"xs";refine jx (by rw[sizeLine_eq,aq];simp;omega) ?_;walk_at"xs";refine⟨_,rfl,by rw[sizeLine_eq,List.length_map];omega,hD1 _ ⟨some (.imm (.int (y:Int))),?_⟩⟩;rw[hGs,show([y].filter fun q=>!l.contains q)=[y] by rw[List.filter_cons,hc];rfl,List.map_append];simp[lnD,natD,MSt.setV]
   .rintro m ny ⟨c,rfl⟩;rw[aE,hGn];walk_at"xs";exact⟨_,_,rfl⟩
  .rintro m nz ⟨b,c,rfl⟩;rw[List.length_map,List.take_length];walk_at"xn";refine kZ (k:=0) rfl (Nat.le_refl _) (fun j hj=>?_) ⟨_,rfl⟩
   match j with
   |0|1|3=>exact fun z=>by cases z
   |2=>exact(hj rfl).elim
   |n+4=>exact fun z=>by cases z
 .rintro m n ⟨a,rfl⟩;rw[aE];walk_at"xs";exact k
theorem qb(T:Bl K mg)(D:DefM K mg "with_more" iQ ["lines","line","more"]):FnM P w K mg base "with_more" 1 3 i5:=by
 refine aQ D ph rfl (nN:=3) rfl (by decide) ?ar fun cdv A outer s H E f hr=>⟨_,(aa (ah (ac aI (ac aI (cu dY (mv' 0) cY (c6 (mv' 1))) (ae (mc' (ac aI (ab (mv' 0) (mv' 1)) (mv' 2)) mn'))) (cu dY (mv' 0) (c6 (ac aI (mv' 1) mh')) cY)))),?_⟩
 case ar=>rintro as Kc ⟨l,j,d,x,rfl,_⟩;rfl
 rintro as Kc hl ⟨l,j,d,x,rfl,hj,hl4,hx,k⟩;refine ai (MSt.mk [some (.imm (.tuple (natD l))),some (.imm (.int (j:Int))),some (.imm (.int d))] [] 0) rfl ?_;walk_at"xs";refine aD (ay (aF (getN rfl hj))) ?_;walk_at"xs";rw[hx,j4];refine jx (by rw[sizeLine_eq,List.length_take,aq];simp;omega) ?_;walk_at"xs";rw[show(j:Int)+1=((j+1:Nat):Int)from rfl,jT];refine jx (by rw[sizeLine_eq,List.length_append,List.length_take,List.length_drop,aq];simp;omega) ?_;walk_at"xs";have e:(natD l).take j++[.int (x:Int)]++(natD l).drop (j+1)=natD (l.set j x):=by
  rw[<-qB,List.set_eq_take_append_cons_drop,if_pos (by rw[aq];exact hj)];simp
 rw[e];exact k
theorem v6(T:Bl K mg)(D:DefM K mg "come_to" l8 ["hall","lines","line"])(Gwith_more:FnM P w K mg base "with_more" 1 3 i5):FnM P w K mg base "come_to" 2 3 z9:=by
 refine aQ D vh rfl (nN:=3) rfl (by decide) ?ar fun cdv A outer s H E f hr=>⟨_,(mz' (aM (ak (ba hr.units) (ab (mv' 1) (mv' 2)) (ab (ab (ab (mv' 0) mh') (mv' 2)) mh') (az _)) (aa (ah (ae (mc' (mv' 1) (mc' aB mn'))))) am)
   (aa (ah (ae (mc' (mf' Gwith_more (hr.mono (by decide)) (mc' (mv' 1) (mc' (mv' 2) (mc' mh' mn')))) (mc' aB mn')))))),?_⟩
 case ar=>rintro as Kc ⟨h,l,j,rfl,_⟩;rfl
 rintro as Kc hl ⟨h,l,j,rfl,ho,hL,hj,k⟩;have hll:=hL.1;have n4:=ho.n4;obtain⟨s,es,ea,eb,hs⟩:=h.srv hj;have er:h.rn j=s.r:=bM (Hall.rs_get es);refine ai (MSt.mk [some (.imm (.tuple [.tuple [.int h.a,.int h.b],.tuple (h.ss.map Srv.d),.bool h.mv])),some (.imm (.tuple (natD l))),some (.imm (.int (j:Int)))] [] 0) rfl ?_;walk_at"xs";refine aD (ay (aF (getN hll hj))) ?_;walk_at"xs";refine aD (d:=s.d) (ay (by rw[List.getElem?_map,es];rfl)) ?_;dsimp only[Srv.d];walk_at"xs";refine aA (fun z=>?_) (fun z=>?_)
 .walk_at"xs";have e:cj h l j=(l,.away):=if_pos (by rw[er];omega);rw[e]at k;exact k
 .walk_at"xs";refine⟨l,j,1,l.getD j 0+1,rfl,by omega,by omega,rfl,?_⟩;walk_at"xx";have e:cj h l j=(l.set j (l.getD j 0+1),.taken):=if_neg (by rw[er];omega);rw[e]at k;exact k
theorem uH(T:Bl K mg)(D:DefM K mg "done_at" lZ ["lines","line"])(Gwith_more:FnM P w K mg base "with_more" 1 3 i5):FnM P w K mg base "done_at" 2 2 Aa:=by
 refine aQ D vd rfl (nN:=2) rfl (by decide) ?ar fun cdv A outer s H E f hr=>⟨_,(mz' (aM (ak (ba hr.units) (ab (mv' 0) (mv' 1)) mh' (az _)) (aa (ah (ae (mc' (mv' 0) (mc' aB mn'))))) am)
   (aa (ah (ae (mc' (mf' Gwith_more (hr.mono (by decide)) (mc' (mv' 0) (mc' (mv' 1) (mc' (jF gm mh') mn')))) (mc' aB mn')))))),?_⟩
 case ar=>rintro as Kc ⟨l,j,rfl,_⟩;rfl
 rintro as Kc hl ⟨l,j,rfl,hj,hl4,k⟩;refine ai (MSt.mk [some (.imm (.tuple (natD l))),some (.imm (.int (j:Int)))] [] 0) rfl ?_;walk_at"xs";refine aD (ay (aF (getN rfl hj))) ?_;walk_at"xs";refine aA (fun z=>?_) (fun z=>?_)
 .walk_at"xs";have e:b7 l j=(l,.none):=if_pos (by omega);rw[e]at k;exact k
 .walk_at"xs";refine⟨l,j,-1,l.getD j 0-1,rfl,hj,hl4,by omega,?_⟩;walk_at"xx";have e:b7 l j=(l.set j (l.getD j 0-1),.served):=if_neg (by omega);rw[e]at k;exact k
theorem mE(T:Bl K mg)(D:DefM K mg "next_shift" gx ["hall","lines"]):FnM P w K mg base "next_shift" 1 2 vy:=by
 refine aQ D oI rfl (nN:=2) rfl (by decide) ?ar fun cdv A outer s H E f hr=>⟨_,(mz' (aM (EW.pt (v3 (AV (oX (ab (mv' 0) mh'))) (v3 (ak (kh hr.units) mh' (mv' 1) (by with_unfolding_all rfl)) (vW (ak i7 (al (fU rfl) (by rfl) T.max rq (mc' (mv' 1) mn')) mh' (az _)))))) (aa (ah p7)) am)
   (aa (ah (ae (mc' (qw PySem.F.slot_tuple_index PySem.F.type_tuple_index (fX hr.units) (mv' 1) (mc' (al (fU rfl) (by rfl) T.max rq (mc' (mv' 1) mn')) mn')) (mc' (qw PySem.F.slot_tuple_index PySem.F.type_tuple_index (fX hr.units) (mv' 1) (mc' mh' mn')) mn')))))),?_⟩
 case ar=>rintro as Kc ⟨h,l,rfl,_⟩;rfl
 rintro as Kc hl ⟨h,l,rfl,hne,hl4,k⟩;have hints:cR (natD l)=some (l.map fun(x:Nat)=>(x:Int)):=by
  have:=cz (l.map fun(x:Nat)=>(x:Int));rwa[List.map_map]at this
 have hnei:(l.map fun(x:Nat)=>(x:Int))≠[]:=fun z=>hne (List.map_eq_nil_iff.mp z);have hmax:∀x:Int,x∈(l.map fun(x:Nat)=>(x:Int))->(∀y∈(l.map fun(x:Nat)=>(x:Int)),y≤x)->x=(maxN l:Int):=fun x hx hy=>by
  obtain⟨n,hn,rfl⟩:=List.mem_map.mp hx;have h1:=pc n hn;have h2:=hy (maxN l:Int) (List.mem_map.mpr ⟨maxN l,gF hne,rfl⟩);omega
 have hin:(natD l).any (fun y=>PyData.eqv y (.int 0))=decide (0∈l):=by
  rw[Bool.eq_iff_iff];rw[List.any_eq_true,decide_eq_true_eq];constructor
  .rintro⟨y,hy,e⟩;obtain⟨x,hx,rfl⟩:=List.mem_map.mp hy;have e':=cb x 0;rw[show((0:Nat):Int)=0 from rfl,e]at e';have:x=0:=of_decide_eq_true e'.symm;rw[<-this];exact hx
  .intro h0;exact⟨.int 0,List.mem_map.mpr ⟨0,h0,rfl⟩,cb 0 0⟩
 refine ai (MSt.mk [some (.imm (.tuple [.tuple [.int h.a,.int h.b],.tuple (h.ss.map Srv.d),.bool h.mv])),some (.imm (.tuple (natD l)))] [] 0) rfl ?_;walk_at"xs"
 cases hmv:h.mv with
 |false =>
  refine iW ?_;walk_at"xs";have e:cK h l=none:=if_neg (by rw[hmv];exact fun z=>by cases z.1);rw[e]at k;exact k
 | true =>
  refine gg ?_;walk_at"xs";refine x_in (d:=.int 0) (ds:=natD l) rfl (.inr rfl) (d7 0) (d6 l) (by decide) ?_;walk_at"xs";rw[hin]
  by_cases h0:0∈l
  .rw[decide_eq_true h0];refine gg ?_;walk_at"xs";refine qx rfl hints hnei fun x hx hy=>?_;rw[hmax x hx hy];walk_at"xs";refine aA (fun z=>?_) (fun z=>?_)
   .walk_at"xs";have e:cK h l=none:=if_neg (fun q=>by have:=q.2.2;omega);rw[e]at k;exact k
   .walk_at"xs";refine qx rfl hints hnei fun x hx hy=>?_;rw[hmax x hx hy];have s1:=fM (gF hne);have s0:=fM h0;walk_at"xs";refine jl (j:=idx l (maxN l)) (k':=0) (d7 _) (d6 l) (by decide) (aF s1.1) (by rw[cb];exact decide_eq_true rfl) (fun i y hi hy=>?_) ?_
    .obtain⟨z,ez,rfl,_⟩:=gmap hy;rw[cb];exact decide_eq_false (s1.2 i z hi ez)
    walk_at"xs";refine jl (j:=idx l 0) (k':=0) (d7 _) (d6 l) (by decide) (aF s0.1) (cb 0 0) (fun i y hi hy=>?_) ?_
    .obtain⟨z',ez,rfl,_⟩:=gmap hy;have:=cb z' 0;rw[show((0:Nat):Int)=0 from rfl]at this;rw[this];exact decide_eq_false (s0.2 i z' hi ez)
    walk_at"xs";have e:cK h l=some (idx l (maxN l),idx l 0):=if_pos ⟨hmv,h0,by omega⟩;rw[e]at k;exact k
  .rw[decide_eq_false h0];refine iW ?_;walk_at"xs";have e:cK h l=none:=if_neg (fun q=>h0 q.2.1);rw[e]at k;exact k
theorem vI(T:Bl K mg)(D:DefM K mg "settled" l7 ["hall","lines"])(Gnext_shift:FnM P w K mg base "next_shift" 1 2 vy)(Gwith_more:FnM P w K mg base "with_more" 1 3 i5):FnM P w K mg base "settled" 2 2 mZ:=by
 refine aQ D gz rfl (nN:=3) rfl (by decide) ?ar fun cdv A outer s H E f hr=>⟨_,(mz' (ag 2 gz.nd (mf' Gnext_shift (hr.mono (by decide)) (mc' (mv' 0) (mc' (mv' 1) mn'))))
   (mz' (ia (ak sE (mv' 2) p7 (az _)) (mz' (ag 1 gz.nd (mf' Gwith_more (hr.mono (by decide)) (mc' (mf' Gwith_more (hr.mono (by decide)) (mc' (mv' 1) (mc' (ab (mv' 2) mh') (mc' (jF gm mh') mn')))) (mc' (ab (mv' 2) mh') (mc' mh' mn')))))
   (aa (ag 2 gz.nd (mf' Gnext_shift (hr.mono (by decide)) (mc' (mv' 0) (mc' (mv' 1) mn')))))) PassesOwn.never)
   (aa (ah (mv' 1))))),?_⟩
 case ar=>rintro as Kc ⟨h,l,rfl,_⟩;rfl
 rintro as Kc hl ⟨h,l,rfl,hne,hl4,k⟩;refine ai (MSt.mk [some (.imm h.d),some (.imm (lnD l)),none] [] 0) rfl ?_;walk_at"xs";refine⟨h,l,rfl,hne,hl4,?_⟩;walk_at"xx";refine lu (fun n m=>∃l':List Nat,m=MSt.mk [some (.imm h.d),some (.imm (lnD l')),some (.imm (optP (cK h l')))] [] 0/\n=l'.count 0/\cw h n l'=cy h l/\l'≠[]/\l'.length≤1000) (l.count 0) ⟨l,rfl,rfl,rfl,hne,hl4⟩ ?_;rintro n m hn ⟨l',rfl,rfl,hs,hne',hl'⟩;walk_at"xs"
 cases e:cK h l' with
 |none =>
  refine gg ?_;walk_at"xs";rw[iY e]at hs;rw[<-hs]at k;exact k
 | some p =>
  refine iW ?_;obtain⟨es,l1,l2,hc,hlen⟩:=fG e;obtain⟨m0,m1,m2,m3,m4⟩:=dQ e;have g1:l'.getD p.1 0=maxN l':=bM m1;have g2:(l'.set p.1 (maxN l'-1)).getD p.2 0=0:=bM (by rw[List.getElem?_set_ne m4];exact m3);dsimp only[optP];walk_at"xs";refine⟨l',p.1,-1,maxN l'-1,rfl,l1,hl',by omega,?_⟩;walk_at"xx";refine⟨l'.set p.1 (maxN l'-1),p.2,1,1,rfl,by rw[List.length_set];exact l2,by rw[List.length_set];exact hl',by omega,?_⟩;rw[<-es];walk_at"xx";have hne2:ca l' p≠[]:=fun z=>by
   rw[z]at hlen;exact hne' (List.eq_nil_of_length_eq_zero hlen.symm)
  refine⟨h,ca l' p,rfl,hne2,by omega,?_⟩;walk_at"xx";refine⟨(ca l' p).count 0,by omega,ca l' p,rfl,rfl,?_,hne2,by omega⟩;rw[<-hs,<-hc];show _=cw h ((ca l' p).count 0+1) l';simp only[cw,e]
theorem l6(T:Bl K mg)(D:DefM K mg "turn_behind" fu ["hall","rule","turn"]):FnM P w K mg base "turn_behind" 1 3 wN:=by
 refine aQ D ma rfl (nN:=3) rfl (by decide) ?ar fun cdv A outer s H E f hr=>⟨_,(mz' (aM (ak (ba hr.units) (ab (mv' 1) mh') aB (az _)) (aa (ah (ac cV (ac aI (mv' 2) mh') (al aK (by rfl) T.len bX (mc' (ab (mv' 0) mh') mn'))))) am)
   (aa (ah (mv' 2)))),?_⟩
 case ar=>rintro as Kc ⟨h,r,t,rfl,_⟩;rfl
 rintro as Kc hl ⟨h,r,t,rfl,ho,k⟩;have n1:=ho.n1;refine ai (MSt.mk [some (.imm (.tuple [.tuple [.int h.a,.int h.b],.tuple (h.ss.map Srv.d),.bool h.mv])),some (.imm r.d),some (.imm (.int (t:Int)))] [] 0) rfl ?_;walk_at"xs";refine Dg r.dc (ay (j:=0) rfl) ?_;walk_at"xs";refine aA (fun z=>?_) (fun z=>?_)
 .have hr:r = .turns:=by cases r<;>first|rfl|exact absurd z (by decide +kernel)|exact absurd (show("told" : Str) = "turns" from z) (by decide +kernel)
  subst hr;walk_at"xs";refine AM (by rw[List.length_map];omega) ?_;rw[List.length_map];exact k
 .walk_at"xs";have e:oa h r t=t:=by cases r<;>first|rfl|exact absurd rfl z
  rw[e]at k;exact k
theorem vk(T:Bl K mg)(D:DefM K mg "line_of" md ["hall","rule","stand","move"])(Gsent_to:FnM P w K mg base "sent_to" 3 4 jp):FnM P w K mg base "line_of" 4 4 sj:=by
 refine aQ D ub rfl (nN:=4) rfl (by decide) ?ar fun cdv A outer s H E f hr=>⟨_,(mz' (aM (ak (ba hr.units) (ab (mv' 3) mh') aB (az _)) (aa (ah (mf' Gsent_to (hr.mono (by decide)) (mc' (mv' 0) (mc' (mv' 1) (mc' (mv' 2) (mc' (ab (mv' 3) mh') mn'))))))) am)
   (mz' (aM (ak (ba hr.units) (ab (mv' 3) mh') aB (az _)) (aa (ah (ab (mv' 3) mh'))) am)
   (aa (ah p7)))),?_⟩
 case ar=>rintro as Kc ⟨h,r,l,t,mv,rfl,_⟩;rfl
 rintro as Kc hl ⟨h,r,l,t,mv,rfl,ho,hr0,hL,hm,k⟩
 cases mv with
 |come o =>
  refine ai (MSt.mk [some (.imm h.d),some (.imm r.d),some (.imm (stD l t)),some (.imm (.tuple [.str "come",lnD o]))] [] 0) rfl ?_;walk_at"xs";refine aA (fun _=>?_) (fun z=>(z rfl).elim);walk_at"xs";refine⟨h,r,l,t,o,rfl,ho,hr0,hL,hm,?_⟩;walk_at"xn";exact k
 |done j =>
  refine ai (MSt.mk [some (.imm h.d),some (.imm r.d),some (.imm (stD l t)),some (.imm (.tuple [.str "done",.int (j:Int)]))] [] 0) rfl ?_;walk_at"xs";refine aA (fun z=>absurd z (by decide +kernel)) (fun _=>?_);walk_at"xs";refine aA (fun _=>?_) (fun z=>(z rfl).elim);walk_at"xs";exact k
 |still =>
  refine ai (MSt.mk [some (.imm h.d),some (.imm r.d),some (.imm (stD l t)),some (.imm (.tuple [.str "still"]))] [] 0) rfl ?_;walk_at"xs";refine aA (fun z=>absurd z (by decide +kernel)) (fun _=>?_);walk_at"xs";refine aA (fun z=>absurd z (by decide +kernel)) (fun _=>?_);walk_at"xs";exact k
theorem t3(T:Bl K mg)(D:DefM K mg "moved_on" jR ["hall","rule","stand","move"])(Gline_of:FnM P w K mg base "line_of" 4 4 sj)(Gcome_to:FnM P w K mg base "come_to" 2 3 z9)(Gturn_behind:FnM P w K mg base "turn_behind" 1 3 wN)(Gdone_at:FnM P w K mg base "done_at" 2 2 Aa)(Gsettled:FnM P w K mg base "settled" 2 2 mZ):FnM P w K mg base "moved_on" 5 4 vG:=by
 refine aQ D bI rfl (nN:=8) rfl (by decide) ?ar fun cdv A outer s H E f hr=>⟨_,(mz' (cC (mv' 2) (bo (n:=2) (af (ap 4 bI.nd) (af (ap 5 bI.nd) aY))))
   (mz' (ag 6 bI.nd aB)
   (mz' (ag 7 bI.nd (mf' Gline_of (hr.mono (by decide)) (mc' (mv' 0) (mc' (mv' 1) (mc' (mv' 2) (mc' (mv' 3) mn'))))))
   (mz' (aM (ak (ba hr.units) (ab (mv' 3) mh') aB (az _)) (mz' (cC (mf' Gcome_to (hr.mono (by decide)) (mc' (mv' 0) (mc' (mv' 4) (mc' (mv' 7) mn')))) (bo (n:=2) (af (ap 4 bI.nd) (af (ap 6 bI.nd) aY))))
   (aa (ag 5 bI.nd (mf' Gturn_behind (hr.mono (by decide)) (mc' (mv' 0) (mc' (mv' 1) (mc' (mv' 5) mn'))))))) (aa (aM (ak (ba hr.units) (ab (mv' 3) mh') aB (az _)) (aa (cC (mf' Gdone_at (hr.mono (by decide)) (mc' (mv' 4) (mc' (mv' 7) mn'))) (bo (n:=2) (af (ap 4 bI.nd) (af (ap 6 bI.nd) aY))))) am)))
   (aa (ah (ae (mc' (ae (mc' (mf' Gsettled (hr.mono (by decide)) (mc' (mv' 0) (mc' (mv' 4) mn'))) (mc' (mv' 5) mn'))) (mc' (mv' 6) mn'))))))))),?_⟩
 case ar=>rintro as Kc ⟨h,r,l,t,mv,rfl,_⟩;rfl
 rintro as Kc hl ⟨h,r,l,t,mv,rfl,ho,hr0,hL,hm,ht,k⟩;have hll:=hL.1;have n1:=ho.n1;have n4:=ho.n4;have ne:∀l':List Nat,l'.length=l.length->l'≠[]:=fun l' e z=>by rw[z]at e;simp at e;omega
 cases mv with
 |come o =>
  refine ai (MSt.mk [some (.imm h.d),some (.imm r.d),some (.imm (.tuple [lnD l,.int (t:Int)])),some (.imm (.tuple [.str "come",lnD o])),none,none,none,none] [] 0) rfl ?_;walk_at"xs"
  .rfl
  walk_at"xs";refine⟨h,r,l,t,.come o,rfl,ho,hr0,hL,hm,?_⟩;dsimp only[yb];walk_at"xx";refine aA (fun _=>?_) (fun z=>(z rfl).elim);walk_at"xs";refine⟨h,l,sent h r l t o,rfl,ho,hL,me ho hr0 hL hm ht,?_⟩;walk_at"xn";dsimp only[lwD];walk_at"xs"
  .rfl
  walk_at"xs";refine⟨h,r,t,rfl,ho,?_⟩;walk_at"xx";have hlen:(cj h l (sent h r l t o)).1.length=l.length:=by unfold cj;split<;>simp
  refine⟨h,_,rfl,ne _ hlen,by omega,?_⟩;walk_at"xx";exact k
 |done j =>
  refine ai (MSt.mk [some (.imm h.d),some (.imm r.d),some (.imm (.tuple [lnD l,.int (t:Int)])),some (.imm (.tuple [.str "done",.int (j:Int)])),none,none,none,none] [] 0) rfl ?_;walk_at"xs"
  .rfl
  walk_at"xs";refine⟨h,r,l,t,.done j,rfl,ho,hr0,hL,hm,?_⟩;dsimp only[yb];walk_at"xx";refine aA (fun z=>absurd z (by decide +kernel)) (fun _=>?_);walk_at"xs";refine aA (fun _=>?_) (fun z=>(z rfl).elim);walk_at"xs";refine⟨l,j,rfl,by rw[hll];exact hm,by omega,?_⟩;walk_at"xn";dsimp only[lwD];walk_at"xs"
  .rfl
  walk_at"xs";have hlen:(b7 l j).1.length=l.length:=by unfold b7;split<;>simp
  refine⟨h,_,rfl,ne _ hlen,by omega,?_⟩;walk_at"xx";exact k
 |still =>
  refine ai (MSt.mk [some (.imm h.d),some (.imm r.d),some (.imm (.tuple [lnD l,.int (t:Int)])),some (.imm (.tuple [.str "still"])),none,none,none,none] [] 0) rfl ?_;walk_at"xs"
  .rfl
  walk_at"xs";refine⟨h,r,l,t,.still,rfl,ho,hr0,hL,hm,?_⟩;dsimp only[yb];walk_at"xx";refine aA (fun z=>absurd z (by decide +kernel)) (fun _=>?_);walk_at"xs";refine aA (fun z=>absurd z (by decide +kernel)) (fun _=>?_);walk_at"xs";refine⟨h,l,rfl,ne _ rfl,by omega,?_⟩;walk_at"xx";exact k
theorem mf(T:Bl K mg)(D:DefM K mg "move_shares" dw ["hall"])(Gall_orders:FnM P w K mg base "all_orders" 1 1 Ak)(Gdivided:FnM P w K mg base "divided" 3 2 DN)(Gtaken_off:FnM P w K mg base "taken_off" 3 2 Fm):FnM P w K mg base "move_shares" 4 1 rg:=by
 refine aQ D aW rfl (nN:=10) rfl (by decide) ?ar fun cdv A outer s H E f hr=>⟨_,(mz' (cC (mv' 0) (bo (n:=3) (af (ap 1 aW.nd) (af (ap 2 aW.nd) (af (ap 3 aW.nd) aY)))))
   (mz' (ag 4 aW.nd (mf' Gall_orders (hr.mono (by decide)) (mc' (mv' 0) mn')))
   (mz' (cU (i:=5) aW.nd rfl (Or.inr rfl) (mf' Gdivided (hr.mono (by decide)) (mc' (mv' 1) (mc' (ae (mc' (al aK (by rfl) T.len bX (mc' (mv' 4) mn')) (mc' mh' mn'))) mn'))))
   (mz' (uv (i:=6) (own:=["order"]) (fr:=["each"]) (ps:=[5]) (sc:=(ad dw)) (by exact⟨rfl,by decide +kernel,by decide +kernel,by decide +kernel,by decide +kernel⟩) aW.nd rfl rfl (bG (mv' 4)) (fun _ _ _ _ _=>(ap 0 (show List.Nodup ((["order"]:List Str)++(["each"]:List Str))from by decide +kernel))) (fun _ _ _ _ _=>cJ) (fun _ _ _ _ _=>(ae (mc' (ae (mc' aB (mc' (mv' 0) mn'))) (mc' (mv' 1) mn')))))
   (mz' (ag 7 aW.nd (mf' Gtaken_off (hr.mono (by decide)) (mc' (AH T.c_WHOLE_TURN (by rfl)) (mc' (mv' 1) mn'))))
   (mz' (bf (xW T.enumerate (mc' (mv' 2) mn')) (bo (n:=2) (af (ap 8 aW.nd) (af (ap 9 aW.nd) aY))) (mz' (d4 (iX PySem.F.slot_list_append PySem.F.type_list_append dM (mv' 6) (mc' (ae (mc' (ae (mc' aB (mc' (mv' 8) mn'))) (mc' (ab (mv' 9) mh') mn'))) mn')))
   (aa (ag 7 aW.nd (mf' Gtaken_off (hr.mono (by decide)) (mc' (mv' 7) (mc' (ab (mv' 9) mh') mn')))))) PassesOwn.never)
   (mz' (aM (ak ic (ab (mv' 7) mh') mh' (az _)) (aa (d4 (iX PySem.F.slot_list_append PySem.F.type_list_append dM (mv' 6) (mc' (ae (mc' (ae (mc' aB mn')) (mc' (mv' 7) mn'))) mn')))) am)
   (aa (ah (mv' 6)))))))))),?_⟩
 case ar=>rintro as Kc ⟨h,rfl,_⟩;rfl
 rintro as Kc hl ⟨h,rfl,ho,k⟩;have a1:=ho.a1;have a2:=ho.a2;have b1:=ho.b1;have b2:=ho.b2;have n4:=ho.n4;have nO:=(ci h.ss.length ho.n4 h.ss.length ho.n4).1;have pO:=cI h.ss.length ho.n4;refine ai (MSt.mk [some (.imm (.tuple [.tuple [.int h.a,.int h.b],.tuple (h.ss.map Srv.d),.bool h.mv])),none,none,none,none,none,none,none,none,none] [] 0) rfl ?_;walk_at"xs"
 .rfl
 walk_at"xs";refine⟨h,rfl,ho,?_⟩;walk_at"xn";refine cE ?_;walk_at"xx";refine⟨(h.a:Int),(h.b:Int),(((ordK h.ss.length h.ss.length).map lnD).length:Int),1,rfl,⟨by omega,by omega,by omega⟩,⟨by rw[List.length_map];omega,by decide,by decide⟩,by rw[List.length_map];omega,?_⟩;walk_at"xx";rw[List.length_map];refine iE (fun i m=>∃a,m=MSt.mk [a,some (.imm (nf ((h.a:Int)*1) ((h.b:Int)*((ordK h.ss.length h.ss.length).length:Int))))] [(ordK h.ss.length h.ss.length).map lnD,(gj h).take i] 2) ⟨none,rfl⟩ ?_ ?_ ?_
 .rintro i m ⟨a,rfl⟩;rfl
 .rintro i d m e hnp ⟨a,rfl⟩;obtain⟨o,eo,rfl,hi⟩:=gmap e;walk_at"xs";have ec:(gj h)[i]?=some (.tuple [(Mv.come o).d,nf ((h.a:Int)*1) ((h.b:Int)*((ordK h.ss.length h.ss.length).length:Int))]):=by unfold gj;rw[List.getElem?_map,eo];rfl
  refine⟨_,rfl,by rw[List.length_take,sizeLine_eq];omega,some (.imm (lnD o)),?_⟩;rw[List.take_succ,ec];rfl
 .rintro m hnp ⟨a,rfl⟩;have ef:(gj h).take ((ordK h.ss.length h.ss.length).map lnD).length=gj h:=by
   have:((ordK h.ss.length h.ss.length).map lnD).length=(gj h).length:=by unfold gj;rw[List.length_map,List.length_map]
   rw[this];exact List.take_length
  rw[ef];walk_at"xn";refine cE ?_;walk_at"xx";refine⟨1,1,(h.a:Int),(h.b:Int),rfl,⟨by decide,by decide,by decide⟩,⟨by omega,by omega,by omega⟩,?_⟩;walk_at"xn";refine bJ ?_;walk_at"xx";refine⟨true,h.ss.map Srv.d,rfl,?_⟩;refine bu (fun i m=>∃a b,m=MSt.mk [some (.imm (.tuple [.tuple [.int h.a,.int h.b],.tuple (h.ss.map Srv.d),.bool h.mv])),some (.imm (.tuple [.int h.a,.int h.b])),some (.imm (.tuple (h.ss.map Srv.d))),some (.imm (.bool h.mv)),some (.obj 0),some (.imm (nf ((h.a:Int)*1) ((h.b:Int)*((ordK h.ss.length h.ss.length).length:Int)))),some (.obj 1),some (.imm (rsD h i)),a,b] [(ordK h.ss.length h.ss.length).map lnD,gj h++ji h i] 0) ⟨none,none,?_⟩ ?_ ?_
  .rw[show ji h 0=[]from rfl,List.append_nil];rfl
  .rintro i d m e hnp ⟨a,b,rfl⟩ D1 hD1 hR1;have hi:i<h.ss.length:=by
    have:=(List.getElem?_eq_some_iff.mp e).1;rw[du,List.length_map]at this;exact this
   have es:h.ss[i]?=some h.ss[i]:=List.getElem?_eq_getElem hi;have ed:d = .tuple [.int (i:Int),Srv.d h.ss[i]]:=by
    have:=nr (ds:=h.ss.map Srv.d) (i:=i) (d:=Srv.d h.ss[i]) (by rw[List.getElem?_map,es];rfl);rw[this]at e;exact(Option.some.inj e).symm
   subst ed;have so:=ho.ok h.ss[i] (List.getElem_mem _);have sa:=so.a2;have sb:=so.b2;have sb1:=so.b1;have rk:=oW ho (k:=i) (by omega);have ln:(ji h i).length=i:=by unfold ji;rw[List.length_map,List.length_range]
   have lc:(gj h).length≤24:=by unfold gj;rw[List.length_map];exact nO
   generalize es':h.ss[i]=sv at *;obtain⟨va,vb,vr⟩:=sv;walk_at"xs"
   .rfl
   walk_at"xs";refine aD (ds:=[.tuple [.int (va:Int),.int (vb:Int)],.int (vr:Int)]) (ay (j:=0) rfl) ?_;walk_at"xs";refine⟨_,rfl,?_⟩;refine⟨by rw[sizeLine_eq,List.length_append];omega,?_⟩;walk_at"xx";refine aD (ds:=[.tuple [.int (va:Int),.int (vb:Int)],.int (vr:Int)]) (ay (j:=0) rfl) ?_;walk_at"xs";refine⟨(restF h i).1,(restF h i).2,(va:Int),(vb:Int),rfl,rk,⟨by simp only at sa;omega,by simp only at sb;omega,by simp only at sb1;omega⟩,?_⟩;rw[<-y7 (s:=⟨va,vb,vr⟩) es];walk_at"xn";refine bJ ?_;walk_at"xn";refine hD1 _ ⟨some (.imm (.int (i:Int))),some (.imm (Srv.d ⟨va,vb,vr⟩)),?_⟩;rw[sD,bM es,List.append_assoc];rfl
  .rintro m hnp ⟨a,b,rfl⟩;rw[du,List.length_map];walk_at"xs";refine aD (ds:=[.int (restF h h.ss.length).1,.int (restF h h.ss.length).2]) (ay (j:=0) rfl) ?_;walk_at"xs";have ln:(ji h h.ss.length).length=h.ss.length:=by unfold ji;rw[List.length_map,List.length_range]
   have lc:(gj h).length≤24:=by unfold gj;rw[List.length_map];exact nO
   rw[DW ho]at k;refine aA (fun z=>?_) (fun z=>?_)
   .rw[if_pos z]at k;walk_at"xs";refine⟨_,rfl,?_⟩;refine⟨by rw[sizeLine_eq,List.length_append];omega,?_⟩;walk_at"xx";exact k
   .rw[if_neg z,List.append_nil]at k;walk_at"xs";exact k
theorem jk(T:Bl K mg)(D:DefM K mg "weights_behind" de ["hall","rule","weights"])(Gmove_shares:FnM P w K mg base "move_shares" 4 1 rg)(Gon_one_bottom:FnM P w K mg base "on_one_bottom" 2 1 sf)(Gmoved_on:FnM P w K mg base "moved_on" 5 4 vG):FnM P w K mg base "weights_behind" 6 3 oj:=by
 refine aQ D aG rfl (nN:=13) rfl (by decide) ?ar fun cdv A outer s H E f hr=>⟨_,(mz' (cC (mf' Gon_one_bottom (hr.mono (by decide)) (mc' (dG (mf' Gmove_shares (hr.mono (by decide)) (mc' (mv' 0) mn'))) mn')) (bo (n:=2) (af (ap 3 aG.nd) (af (ap 4 aG.nd) aY))))
   (mz' (ag 5 aG.nd jq)
   (mz' (ag 6 aG.nd jq)
   (mz' (bf (mQ (mv' 2)) (bo (n:=2) (af (ap 7 aG.nd) (af (ap 8 aG.nd) aY))) (aa (bf (bG (mv' 3)) (bo (n:=2) (af (ap 9 aG.nd) (af (ap 10 aG.nd) aY))) (mz' (cC (mf' Gmoved_on (hr.mono (by decide)) (mc' (mv' 0) (mc' (mv' 1) (mc' (mv' 7) (mc' (mv' 9) mn'))))) (bo (n:=2) (af (ap 11 aG.nd) (af (ap 12 aG.nd) aY))))
   (mz' (mT hr.units (ac aI (fv hr.units (mv' 5) (mc' (mv' 11) (mc' mh' mn'))) (ac av (mv' 8) (mv' 10))) (mv' 5) (mv' 11))
   (aa (qy hr.units (ac aI (fv hr.units (mv' 6) (mc' (mv' 12) (mc' mh' mn'))) (ac av (mv' 8) (mv' 10))) (mv' 6) (mv' 12))))) PassesOwn.never)) PassesOwn.never)
   (aa (B7 (Bx (ah (ae (mc' (mv' 5) (mc' (mv' 6) (mc' (mv' 4) mn')))))))))))),?_⟩
 case ar=>rintro as Kc ⟨h,r,W,rfl,_⟩;rfl
 rintro as Kc hl ⟨h,r,W,rfl,ho,hr0,hW,hWl,k⟩;have hB:=gG ho;obtain⟨mn,mo⟩:=zt ho;refine ai (MSt.mk [some (.imm h.d),some (.imm r.d),some (.imm (wtD W)),none,none,none,none,none,none,none,none,none,none] [] 0) rfl ?_;walk_at"xs";refine⟨h,rfl,ho,?_⟩;walk_at"xx";refine⟨shrL h,_,rfl,hB,?_⟩;rw[Ii];walk_at"xx"
 .rfl
 walk_at"xs";refine qv (gX ?_);walk_at"xn";refine fh (pQ (qv (gX ?_)));walk_at"xn";refine fh ?_;walk_at"xs";refine u5 ?_;walk_at"xs";refine qp (by rw[xZ ho fun p hp=>(hW p hp).1,Bool.or_true]) ?_;refine bu (fun i m=>∃a b c d e f:Option L2.R,m=MSt.mk [some (.imm h.d),some (.imm r.d),some (.imm (wtD W)),some (.imm (.list (msD (msL h)))),some (.imm (.int (botH h:Int))),some (.at 0 []),some (.at 1 []),a,b,c,d,e,f] [[.dict (lfKV (kvA ptD ((W.take i).foldl (goW h r (msL h)) ([],[])).1))],[.dict (lfKV (kvA wdD ((W.take i).foldl (goW h r (msL h)) ([],[])).2))]] 0/\GoOk h r (29*i) ((W.take i).foldl (goW h r (msL h)) ([],[]))) ⟨none,none,none,none,none,none,rfl,⟨fun _ hp=>(by cases hp),Nat.le_refl _,Nat.le_refl _⟩⟩ ?_ ?_
 .rintro i d m e hnp ⟨a1,a2,a3,a4,a5,a6,rfl,G0⟩ D1 hD1 hR1;obtain⟨pr,ep,rfl,hi⟩:∃pr:Pt×Int,W[i]?=some pr/\.tuple [ptD pr.1,.int pr.2]=d/\i<W.length:=by
   have e':(dA (kvA ptD W))[i]?=some d:=e;unfold dA kvA at e';rw[List.map_map,List.getElem?_map]at e'
   cases q:W[i]? with
   |none=>rw[q]at e';cases e'
   |some pr =>
    rw[q]at e';exact⟨pr,rfl,Option.some.inj e',(List.getElem?_eq_some_iff.mp q).1⟩
  obtain⟨⟨l,t⟩,wt⟩:=pr;obtain⟨hS,hwt⟩:=hW _ (List.mem_of_getElem? ep);have efold:(W.take (i+1)).foldl (goW h r (msL h)) ([],[])=goW h r (msL h) ((W.take i).foldl (goW h r (msL h)) ([],[])) ((l,t),wt):=by
   rw[List.take_succ,ep,List.foldl_append];rfl
  generalize hx0:(W.take i).foldl (goW h r (msL h)) ([],[])=x0 at *;walk_at"xs"
  .rfl
  walk_at"xs";refine bu (fun j m=>∃c d e f:Option L2.R,m=MSt.mk [some (.imm h.d),some (.imm r.d),some (.imm (wtD W)),some (.imm (.list (msD (msL h)))),some (.imm (.int (botH h:Int))),some (.at 0 []),some (.at 1 []),some (.imm (ptD (l,t))),some (.imm (.int wt)),c,d,e,f] [[.dict (lfKV (kvA ptD (((msL h).take j).foldl (fun x q=>goW1 h r (l,t) wt q x) x0).1))],[.dict (lfKV (kvA wdD (((msL h).take j).foldl (fun x q=>goW1 h r (l,t) wt q x) x0).2))]] 0/\GoOk h r (29*i+j) (((msL h).take j).foldl (fun x q=>goW1 h r (l,t) wt q x) x0)) ⟨a3,a4,a5,a6,rfl,G0⟩ ?_ ?_
  .rintro j d m ej hnj ⟨b3,b4,b5,b6,rfl,G1⟩ D2 hD2 hR2;obtain⟨q,eq,rfl,hj⟩:=gmap ej;have hq:=mo q (List.mem_of_getElem? eq);have efold1:((msL h).take (j+1)).foldl (fun x q=>goW1 h r (l,t) wt q x) x0=goW1 h r (l,t) wt q (((msL h).take j).foldl (fun x q=>goW1 h r (l,t) wt q x) x0):=by
    rw[List.take_succ,eq,List.foldl_append];rfl
   have G2:=G1.next ho hr0 hS wt hq.1;rw[efold1]at hD2;generalize ((msL h).take j).foldl (fun x q=>goW1 h r (l,t) wt q x) x0=x1 at *;walk_at"xs"
   .rfl
   walk_at"xs";refine⟨h,r,l,t,q.1,rfl,ho,hr0,hS.ln,hq.1,hS.tn,?_⟩;walk_at"xn";rw[show mvD (bO h r l t q.1) = .tuple [ptD ((bO h r l t q.1).1,(bO h r l t q.1).2.1),wdD (bO h r l t q.1).2.2]from rfl];unfold goW1 at G2 hD2;have hS2:=l5 ho hr0 hS hq.1;generalize bO h r l t q.1=mm at *;obtain⟨l2,t2,wd⟩:=mm;dsimp only at hS2 G2 hD2⊢;walk_at"xs"
   .rfl
   walk_at"xs";refine xK ?_;walk_at"xs";walk_at"xn";have kyS:=xZ ho G1.st;have ky2:=ol ho hS2;have m1:=G1.n1;have m2:=G1.n2;refine jS ?_;walk_at"xs";refine⟨kvA ptD x1.1,⟨rfl,rfl⟩,.inr kyS,?_⟩;walk_at"xs";refine⟨kvA ptD x1.1,ptD (l2,t2),.int 0,rfl,⟨rfl,rfl⟩,by unfold oneK;rw[kyS,show kyD (ptD (l2,t2))=true from ky2,Bool.and_true,Bool.or_true],?_⟩;rw[j9 kG];walk_at"xs";refine bC (cx hwt hq.2) ?_;walk_at"xs";refine⟨rfl,kvA ptD x1.1,rfl,kyS,ky2,by unfold kvA;rw[List.length_map,sizeLine_eq];omega,?_⟩;rw[vV kG];walk_at"xx";refine jS ?_;walk_at"xs";refine⟨kvA wdD x1.2,⟨rfl,rfl⟩,.inl (e8 _),?_⟩;walk_at"xs";refine⟨kvA wdD x1.2,wdD wd,.int 0,rfl,⟨rfl,rfl⟩,by unfold oneK;rw[e8];rfl,?_⟩;rw[j9 (enc:=wdD) rF];walk_at"xs";refine bC (cx hwt hq.2) ?_;walk_at"xs";refine sd (x:=wd.s) ?_;refine⟨_,lfKV (kvA wdD x1.2),rfl,rfl,by rw[iR];exact e8 _,rfl,by unfold lfKV kvA;rw[List.length_map,List.length_map,sizeLine_eq];omega,?_⟩;rw[show PyData.str wd.s=wdD wd from rfl,pz (by rfl) (e8 _),vV (enc:=wdD) rF];exact hD2 _ ⟨some (.imm q.1.d),some (.imm (.int q.2)),some (.imm (ptD (l2,t2))),some (.imm (wdD wd)),rfl,G2⟩
  .rintro m hnj ⟨b3,b4,b5,b6,rfl,G1⟩;have el:(msD (msL h)).length=(msL h).length:=by unfold msD;rw[List.length_map]
   have ef:(msL h).take (msD (msL h)).length=msL h:=by rw[el];exact List.take_length
   rw[ef]at G1;rw[ef];refine hD1 _ (show ∃a b c d e f:Option L2.R,_ from⟨some (.imm (ptD (l,t))),some (.imm (.int wt)),b3,b4,b5,b6,?_,?_⟩)
   .rw[efold];rfl
   .rw[efold];refine⟨G1.st,Nat.le_trans G1.n1 ?_,Nat.le_trans G1.n2 ?_⟩<;>rw[el]<;>omega
 .rintro m hnp ⟨a1,a2,a3,a4,a5,a6,rfl,G0⟩;have eW:W.take (dA (kvA ptD W)).length=W:=by unfold dA kvA;rw[List.length_map,List.length_map];exact List.take_length
  rw[eW];rw[eW]at G0;refine Cg 0 5 (kvA ptD (W.foldl (goW h r (msL h)) ([],[])).1) [1] (MSt.mk [some (.imm h.d),some (.imm r.d),some (.imm (wtD W)),some (.imm (.list (msD (msL h)))),some (.imm (.int (botH h:Int))),some (.imm (wtD (W.foldl (goW h r (msL h)) ([],[])).1)),some (.at 0 []),none,none,none,none,none,none] [[.dict (lfKV (kvA wdD (W.foldl (goW h r (msL h)) ([],[])).2))]] 0) rfl rfl (xZ ho G0.st) ?_ ?_
  .exact ya rfl rfl rfl rfl rfl rfl rfl rfl ⟨.inl rfl,.inl rfl,.inl rfl,.inl rfl,.inl rfl,.inr ⟨rfl,.inr rfl⟩,.inl ⟨1,rfl,rfl⟩,.inl trivial,.inl trivial,.inl trivial,.inl trivial,.inl trivial,.inl trivial,trivial⟩
  refine Kh 0 6 (kvA wdD (W.foldl (goW h r (msL h)) ([],[])).2) [] (MSt.mk [some (.imm h.d),some (.imm r.d),some (.imm (wtD W)),some (.imm (.list (msD (msL h)))),some (.imm (.int (botH h:Int))),some (.imm (wtD (W.foldl (goW h r (msL h)) ([],[])).1)),some (.imm (.dict (kvA wdD (W.foldl (goW h r (msL h)) ([],[])).2))),none,none,none,none,none,none] [] 0) rfl rfl (by rw[iR];exact e8 _) ?_ ?_
  .exact ya rfl rfl rfl rfl rfl rfl rfl rfl ⟨.inl rfl,.inl rfl,.inl rfl,.inl rfl,.inl rfl,.inl rfl,.inr ⟨rfl,.inr rfl⟩,.inl trivial,.inl trivial,.inl trivial,.inl trivial,.inl trivial,.inl trivial,trivial⟩
  walk_at"xs";exact k
theorem tp(T:Bl K mg)(D:DefM K mg "means_of" ib ["hall","rule","turns"])(Gfirst_stand:FnM P w K mg base "first_stand" 1 1 uy)(Gweights_behind:FnM P w K mg base "weights_behind" 6 3 oj)(Gfraction_of:FnM P w K mg base "fraction_of" 2 2 xV):FnM P w K mg base "means_of" 7 3 uR:=by
 refine aQ D bh rfl (nN:=11) rfl (by decide) ?ar fun cdv A outer s H E f hr=>⟨_,(mz' (ag 3 bh.nd (nR hr.units (mf' Gfirst_stand (hr.mono (by decide)) (mc' (mv' 0) mn')) mh'))
   (mz' (ag 4 bh.nd mh')
   (mz' (ag 5 bh.nd mh')
   (mz' (ag 6 bh.nd mh')
   (mz' (bf (bz (by rfl) T.range (mc' (mv' 2) mn')) (ap 7 bh.nd) (mz' (cC (mf' Gweights_behind (hr.mono (by decide)) (mc' (mv' 0) (mc' (mv' 1) (mc' (mv' 3) mn')))) (bo (n:=3) (af (ap 3 bh.nd) (af (ap 8 bh.nd) (af (ap 9 bh.nd) aY)))))
   (mz' (ag 5 bh.nd (ac aI (ac av (mv' 5) (mv' 9)) (fv hr.units (mv' 8) (mc' aB (mc' mh' mn')))))
   (mz' (ag 6 bh.nd (ac aI (ac av (mv' 6) (mv' 9)) (fv hr.units (mv' 8) (mc' aB (mc' mh' mn')))))
   (aa (ag 4 bh.nd (ac av (mv' 4) (mv' 9))))))) PassesOwn.never)
   (mz' (ag 10 bh.nd (al (uX rfl) (by rfl) T.sum rB (mc' (cp (own:=["stand","weight"]) (fr:=[]) (ps:=[]) (sc:=(ad ib)) (by exact⟨rfl,by decide +kernel,by decide +kernel,by decide +kernel,by decide +kernel⟩) (mQ (mv' 3)) (fun _ _ _ _ _=>(bo (n:=2) (af (ap 0 (show List.Nodup ((["stand","weight"]:List Str)++([]:List Str))from by decide +kernel)) (af (ap 1 (show List.Nodup ((["stand","weight"]:List Str)++([]:List Str))from by decide +kernel)) aY)))) (fun _ _ _ _ _=>cJ) (fun _ _ _ _ _=>(ac av (mv' 1) (al (iM rfl) (by rfl) T.sum rB (mc' (ab (mv' 0) mh') mn'))))) mn')))
   (aa (ah (ae (mc' (mf' Gfraction_of (hr.mono (by decide)) (mc' (mv' 10) (mc' (mv' 4) mn'))) (mc' (mf' Gfraction_of (hr.mono (by decide)) (mc' (mv' 5) (mc' (mv' 4) mn'))) (mc' (mf' Gfraction_of (hr.mono (by decide)) (mc' (mv' 6) (mc' (mv' 4) mn'))) mn')))))))))))),?_⟩
 case ar=>rintro as Kc ⟨h,r,n,rfl,_⟩;rfl
 rintro as Kc hl ⟨h,r,n,rfl,ho,hr0,hM,hn,k⟩;refine ai (MSt.mk [some (.imm h.d),some (.imm r.d),some (.imm (.int (n:Int))),none,none,none,none,none,none,none,none] [] 0) rfl ?_;walk_at"xs";refine xq ?_;walk_at"xs";refine⟨h,rfl,ho,?_⟩;walk_at"xx";refine⟨ol ho (ls ho r),?_⟩;walk_at"xs";refine⟨by omega,by omega,?_⟩;rw[show((n:Int)).toNat=n by omega];have bL:botH h<10^76:=by have:=(gG ho).pre (shrL h).length;rw[List.take_length]at this;exact this.2
 have up:∀{z:Nat},z<10^90->z<10^160:=fun hz=>Nat.lt_trans hz (by decide);refine bu (fun i m=>∃a b c:Option L2.R,m=MSt.mk [some (.imm h.d),some (.imm r.d),some (.imm (.int (n:Int))),some (.imm (wtD (stW h r i))),some (.imm (.int ((botH h^i:Nat):Int))),some (.imm (.int (cntW h r .served i))),some (.imm (.int (cntW h r .away i))),a,b,c,none] [] 0) ⟨none,none,none,rfl⟩ ?_ ?_
 .rintro i d m e hnp ⟨a,b,c,rfl⟩ D1 hD1 hR1;obtain⟨hi,rfl⟩:=bQ e;walk_at"xs";refine⟨h,r,stW h r i,rfl,ho,hr0,fun p hp=>⟨gc ho hr0 i p hp,up (hM.w i (by omega) p hp)⟩,hM.l i (by omega),?_⟩;walk_at"xx"
  .rfl
  walk_at"xs";walk_at"xn";have bb:((botH h:Nat):Int).natAbs<10^160:=by rw[Int.natAbs_natCast];exact up45 bL
  refine bC (cx (up (hM.s .served i (by omega))) bb) ?_;walk_at"xs";refine jS ?_;walk_at"xs";refine⟨kvA wdD (wdW h r i),rfl,.inl (e8 _),?_⟩;walk_at"xs";refine⟨kvA wdD (wdW h r i),.str "served",.int 0,rfl,rfl,by unfold oneK;rw[e8];rfl,?_⟩;rw[show PyData.str "served" = wdD .served from rfl,j9 (enc:=wdD) rF];walk_at"xs";walk_at"xn";refine bC (cx (up (hM.s .away i (by omega))) bb) ?_;walk_at"xs";refine jS ?_;walk_at"xs";refine⟨kvA wdD (wdW h r i),rfl,.inl (e8 _),?_⟩;walk_at"xs";refine⟨kvA wdD (wdW h r i),.str "away",.int 0,rfl,rfl,by unfold oneK;rw[e8];rfl,?_⟩;rw[show PyData.str "away" = wdD .away from rfl,j9 (enc:=wdD) rF];walk_at"xs";walk_at"xn";refine bC (cx (by rw[Int.natAbs_natCast];exact up (hM.b i (by omega))) bb) ?_;walk_at"xs";rw[<-Int.natCast_mul,<-Nat.pow_succ];exact hD1 _ ⟨_,_,_,rfl⟩
 .rintro m hnp ⟨a,b,c,rfl⟩;rw[aE];walk_at"xs";refine u5 ?_;walk_at"xs";refine qp (by rw[xZ ho (gc ho hr0 n),Bool.or_true]) ?_;refine bu (fun i m=>∃a b:Option L2.R,m=MSt.mk [a,b] [(((stW h r n).take i).map fun p=>p.2*(p.1.1.sum:Int)).map .int] 1) ⟨none,none,rfl⟩ ?_ ?_
  .rintro i d m e hnp ⟨a,b,rfl⟩ D1 hD1 hR1;obtain⟨⟨⟨l,t⟩,wt⟩,ep,rfl,hi⟩:=yL e;have hS:=gc ho hr0 n _ (List.mem_of_getElem? ep);have hw:=hM.w n (Nat.le_refl _) _ (List.mem_of_getElem? ep);have hle:=hM.l n (Nat.le_refl _);walk_at"xs"
   .rfl
   walk_at"xs";refine aD (ds:=[lnD l,.int (t:Int)]) (ay (j:=0) rfl) ?_;walk_at"xs";have l24:=ie ho hS.ln;refine ui rfl (rj l) ?_;rw[qj];refine bC (cx (up hw) (by rw[Int.natAbs_natCast];exact Nat.lt_of_le_of_lt l24 (by decide))) ?_;walk_at"xs";refine⟨_,rfl,by rw[List.length_map,List.length_map,List.length_take,sizeLine_eq];omega,hD1 _ ⟨some (.imm (ptD (l,t))),some (.imm (.int wt)),?_⟩⟩;rw[List.take_succ,ep,List.map_append,List.map_append];rfl
  .rintro m hnp ⟨a,b,rfl⟩;rw[yG,List.take_length];walk_at"xx";have bn:((botH h^n:Nat):Int)≠0:=by
    have:0<botH h^n:=Nat.pow_pos (by have:=(gG ho).pre (shrL h).length;rw[List.take_length]at this;exact this.1);omega
   have bB:((botH h^n:Nat):Int).natAbs<10^160:=by rw[Int.natAbs_natCast];exact up (hM.b n (Nat.le_refl _))
   refine⟨_,_,rfl,cz _,?_⟩;refine bJ ?_;walk_at"xx";refine⟨_,_,rfl,bn,Bw ho hr0 hM,bB,?_⟩;walk_at"xx";refine⟨_,_,rfl,bn,up (hM.s .served n (Nat.le_refl _)),bB,?_⟩;walk_at"xx";refine⟨_,_,rfl,bn,up (hM.s .away n (Nat.le_refl _)),bB,?_⟩;walk_at"xx";exact k
theorem o3(T:Bl K mg)(D:DefM K mg "_law_tape" iJ ["_law_script"]):FnM P w K mg base "_law_tape" 1 1 Au:=by
 refine aQ D oY rfl (nN:=1) rfl (by decide) ?ar fun cdv A outer s H E f hr=>⟨_,(aa (ah (bR (mc' (dG (cu dY (mv' 0) cY (c6 mh'))) (mc' mh' (mc' mh' mn')))))),?_⟩
 case ar=>rintro as Kc ⟨ns,rfl,_⟩;rfl
 rintro as Kc hl ⟨ns,rfl,hn,k⟩;refine ai (MSt.mk [some (.imm (.list (ns.map .int)))] [] 0) rfl ?_;walk_at"xs";have e:cutD (ns.map PyData.int) none (some 63)=ns.map .int:=yD (n:=63) (by rw[List.length_map];exact hn);rw[e];exact k _ ⟨ns,0,0,rfl,hn,by omega,by omega,by omega⟩
theorem oQ(T:Bl K mg)(D:DefM K mg "_law_draw" im ["_law_tape_here","_law_many"]):FnM P w K mg base "_law_draw" 1 2 jG:=by
 refine aQ D cg rfl (nN:=6) rfl (by decide) ?ar fun cdv A outer s H E f hr=>⟨_,(mz' (aM (ak ic (ab (mv' 0) mh') mh' (az _)) (mz' (ag 2 cg.nd (ac cV (ab (mv' 0) mh') (mv' 1)))
   (mz' (l9 (ac c5 (ab (mv' 0) mh') (mv' 1)) (mv' 0) mh')
   (aa (ah (mv' 2))))) am)
   (mz' (ag 3 cg.nd (ab (mv' 0) mh'))
   (mz' (l9 (ac aI (mv' 3) mh') (mv' 0) mh')
   (mz' (ag 4 cg.nd mh')
   (mz' (aM (ak ic (al aK (by rfl) T.len bX (mc' (ab (mv' 0) mh') mn')) mh' (az _)) (aa (ag 4 cg.nd (ab (ab (mv' 0) mh') (ac cV (mv' 3) (al aK (by rfl) T.len bX (mc' (ab (mv' 0) mh') mn')))))) am)
   (mz' (aM (EW.pt (fz (ak Je (mv' 4) (ac DB mh' mh') (az _)) (h7 (ak i7 (mv' 3) (al aK (by rfl) T.len bX (mc' (ab (mv' 0) mh') mn')) (az _))))) (mz' (l9 (ac c5 (mv' 4) (mv' 1)) (mv' 0) mh')
   (aa (ah (ac cV (mv' 4) (mv' 1))))) am)
   (mz' (ag 5 cg.nd (ac cV (ac av (ac aI (ac aI (ac aI (ac cV (mv' 4) mh') (ac av (ac av mh' (mv' 3)) (mv' 3))) (ac av mh' (mv' 3))) mh') mh') mh'))
   (mz' (ag 5 cg.nd (ac cV (ac aI (ac aI (ac av (mv' 5) (mv' 5)) (ac av mh' (mv' 5))) (mv' 3)) mh'))
   (aa (ah (ac cV (ac c5 (ac cV (ac av (mv' 5) mh') mh') mh') (mv' 1)))))))))))),?_⟩
 case ar=>rintro as Kc ⟨ds,m,c,rfl,_⟩;rfl
 rintro as Kc hl ⟨ds,m,c,rfl,⟨ns,p,q,rfl,hn,hp0,hp,hq⟩,hc,hm0,hm1,k⟩;refine ai (MSt.mk [some (.obj 0),some (.imm (.int m)),none,none,none,none] [[.list (ns.map .int),.int p,.int q]] 1) rfl ?_;walk_at"xs";refine aA (fun h=>?_) (fun h=>?_)
 .walk_at"xs";exact k _ _ (Int.emod_nonneg _ (by omega)) (Int.emod_lt_of_pos _ hm0) ⟨ns,p,q/m,rfl,hn,hp0,by omega,Int.ediv_nonneg hq (by omega)⟩
 .walk_at"xs";have fin:∀x:Int,0≤x->x<m->∀q':Int,0≤q'->Kc (.imm (.int x)) [[.list (ns.map .int),.int (p+1),.int q']]:=fun x h1 h2 q' h3=>k _ _ h1 h2 ⟨ns,p+1,q',rfl,hn,by omega,by omega,h3⟩;have mixed:∀y:Int,0≤y/7%m/\y/7%m<m:=fun y=>⟨Int.emod_nonneg _ (by omega),Int.emod_lt_of_pos _ hm0⟩;refine aA (fun h1=>?_) (fun h1=>?_)
  .walk_at"xs";have hl0:(0:Int)<((List.map PyData.int ns).length:Int):=by simpa using h1
   obtain⟨x,hx⟩:=y8 (ns:=ns) (i:=p%((List.map PyData.int ns).length:Int)) (Int.emod_nonneg _ (by omega)) (by have:=Int.emod_lt_of_pos p hl0;simp only[List.length_map]at this⊢;exact this);refine qe hx ?_;walk_at"xs";refine aA (fun h1=>?_) (fun h1=>?_)
   .walk_at"xs";refine aA (fun h2=>?_) (fun h2=>?_)
    .walk_at"xs";exact fin _ (Int.emod_nonneg _ (by omega)) (Int.emod_lt_of_pos _ hm0) _ (Int.ediv_nonneg (Int.le_trans (by decide) h1) (by omega))
    .walk_at"xs";exact fin _ (mixed _).1 (mixed _).2 _ hq
   .walk_at"xs";exact fin _ (mixed _).1 (mixed _).2 _ hq
  .walk_at"xs";refine aA (fun h1=>?_) (fun h1=>?_)
   .exact absurd h1 (by decide)
   .walk_at"xs";exact fin _ (mixed _).1 (mixed _).2 _ hq
theorem t9(T:Bl K mg)(D:DefM K mg "_law_cut" jW ["_law_top","_law_bottom"]):FnM P w K mg base "_law_cut" 1 2 nu:=by
 refine aQ D iA rfl (nN:=4) rfl (by decide) ?ar fun cdv A outer s H E f hr=>⟨_,(mz' (jI (i:=2) (j:=3) iA.nd rfl rfl (by decide) rfl rfl (mc' (al ng (by rfl) T.abs zQ (mc' (mv' 0) mn')) (mc' (mv' 1) mn')) rfl)
   (mz' (ia (ak ic (mv' 3) mh' (az _)) (aa (jI (i:=2) (j:=3) iA.nd rfl rfl (by decide) rfl rfl (mc' (mv' 3) (mc' (ac cV (mv' 2) (mv' 3)) mn')) rfl)) PassesOwn.never)
   (aa (ah (ae (mc' (ac c5 (mv' 0) (mv' 2)) (mc' (ac c5 (mv' 1) (mv' 2)) mn'))))))),?_⟩
 case ar=>rintro as Kc ⟨a,b,rfl,_⟩;rfl
 rintro as Kc hl ⟨t,b,rfl,hb0,ht,hb,k⟩;refine ai (MSt.mk [some (.imm (.int t)),some (.imm (.int b)),none,none] [] 0) rfl ?_;walk_at"xs";rw[show(if t<0 then -t else t)=(t.natAbs:Int) by split<;>omega];refine lu (fun n m=>∃x y:Nat,m=MSt.mk [some (.imm (.int t)),some (.imm (.int b)),some (.imm (.int x)),some (.imm (.int y))] [] 0/\x.gcd y=t.natAbs.gcd b/\n=y) b ⟨t.natAbs,b,rfl,rfl,rfl⟩ ?_;rintro n m hn ⟨x,y,rfl,hg,rfl⟩;walk_at"xs";refine aA (fun hpos=>?_) (fun hz=>?_)
 .walk_at"xs";have hy:0<n:=by omega
  have h2:=Nat.mod_lt x hy;exact⟨x%n,h2,n,x%n,rfl,by rw[Nat.gcd_comm,<-Nat.gcd_rec,Nat.gcd_comm,hg],rfl⟩
 .have hy0:n=0:=by omega
  subst hy0;rw[Nat.gcd_zero_right]at hg;have hx0:0<x:=by rw[hg];exact Nat.gcd_pos_of_pos_right _ hb0
  have hxb:x≤b:=by rw[hg];exact Nat.gcd_le_right _ hb0
  walk_at"xs";rw[hg];have hx1:t.natAbs.gcd b<10^160:=by rw[<-hg];exact Nat.lt_of_le_of_lt hxb hb
  have hx2:0<t.natAbs.gcd b:=by rw[<-hg];exact hx0
  refine gQ (cfdB hx2 hx1) ?_;walk_at"xs";refine gQ (cfdB hx2 hx1) ?_;walk_at"xs";unfold nf nfP at k;rw[if_neg (by omega),Int.natAbs_natCast]at k;exact k
theorem pK(T:Bl K mg)(D:DefM K mg "_law_plus" ik ["_law_one","_law_other"])(G_law_cut:FnM P w K mg base "_law_cut" 1 2 nu):FnM P w K mg base "_law_plus" 2 2 uV:=by
 refine aQ D po rfl (nN:=2) rfl (by decide) ?ar fun cdv A outer s H E f hr=>⟨_,(aa (ah (mf' G_law_cut (hr.mono (by decide)) (mc' (ac aI (ac av (ab (mv' 0) mh') (ab (mv' 1) mh')) (ac av (ab (mv' 1) mh') (ab (mv' 0) mh'))) (mc' (ac av (ab (mv' 0) mh') (ab (mv' 1) mh')) mn'))))),?_⟩
 case ar=>rintro as Kc ⟨a,b,c,d,rfl,_⟩;rfl
 rintro as Kc hl ⟨a,b,c,d,rfl,h1,h2,k⟩;refine ai (MSt.mk [some (.imm (.tuple [.int a,.int b])),some (.imm (.tuple [.int c,.int d]))] [] 0) rfl ?_;walk_at"xs";refine bC (cx (up45 h1.ha) (up45 h2.hb)) ?_;walk_at"xs";refine bC (cx (up45 h2.ha) (up45 h1.hb)) ?_;walk_at"xs";refine bC (cx (up45 h1.hb) (up45 h2.hb)) ?_;walk_at"xs";obtain⟨bb,eb,hbb⟩:=r9 h1.hp h2.hp;rw[eb];refine⟨_,bb,rfl,hbb,Jf (fx h1.ha h2.hb) (fx h2.ha h1.hb),(by have:=fx h1.hb h2.hb;rw[eb,Int.natAbs_natCast]at this;exact pI this),?_⟩;walk_at"xn";rw[<-eb];exact k
theorem nk(T:Bl K mg)(D:DefM K mg "_law_times" gl ["_law_one","_law_other"])(G_law_cut:FnM P w K mg base "_law_cut" 1 2 nu):FnM P w K mg base "_law_times" 2 2 yx:=by
 refine aQ D mD rfl (nN:=2) rfl (by decide) ?ar fun cdv A outer s H E f hr=>⟨_,(aa (ah (mf' G_law_cut (hr.mono (by decide)) (mc' (ac av (ab (mv' 0) mh') (ab (mv' 1) mh')) (mc' (ac av (ab (mv' 0) mh') (ab (mv' 1) mh')) mn'))))),?_⟩
 case ar=>rintro as Kc ⟨a,b,c,d,rfl,_⟩;rfl
 rintro as Kc hl ⟨a,b,c,d,rfl,h1,h2,k⟩;refine ai (MSt.mk [some (.imm (.tuple [.int a,.int b])),some (.imm (.tuple [.int c,.int d]))] [] 0) rfl ?_;walk_at"xs";refine bC (cx (up45 h1.ha) (up45 h2.ha)) ?_;walk_at"xs";refine bC (cx (up45 h1.hb) (up45 h2.hb)) ?_;walk_at"xs";obtain⟨bb,eb,hbb⟩:=r9 h1.hp h2.hp;rw[eb];refine⟨_,bb,rfl,hbb,pI (fx h1.ha h2.ha),(by have:=fx h1.hb h2.hb;rw[eb,Int.natAbs_natCast]at this;exact pI this),?_⟩;walk_at"xn";rw[<-eb];exact k
theorem oh(T:Bl K mg)(D:DefM K mg "_law_parts" dl ["_law_tape_here","_law_many"])(G_law_draw:FnM P w K mg base "_law_draw" 1 2 jG)(G_law_cut:FnM P w K mg base "_law_cut" 1 2 nu):FnM P w K mg base "_law_parts" 3 2 qC:=by
 refine aQ D dB rfl (nN:=5) rfl (by decide) ?ar fun cdv A outer s H E f hr=>⟨_,(mz' (cU (i:=2) dB.nd rfl (Or.inr rfl) (ab (bR (mc' mh' (mc' mh' (mc' mh' (mc' (ab (bR (mc' mh' (mc' mh' mn'))) (da ki (by rfl) T.int wm (mc' (iI ic (mv' 1) mh' (az _)) mn'))) mn'))))) (mf' G_law_draw (hr.mono (by decide)) (mc' (mv' 0) (mc' mh' mn')))))
   (mz' (cU (i:=3) dB.nd rfl (Or.inr rfl) (cp (own:=["_law_k"]) (fr:=["_law_tape_here","_law_most"]) (ps:=[0,2]) (sc:=(ad dl)) (by exact⟨rfl,by decide +kernel,by decide +kernel,by decide +kernel,by decide +kernel⟩) (bz (by rfl) T.range (mc' (ac aI (mv' 1) mh') mn')) (fun _ _ _ _ _=>(ap 0 (show List.Nodup ((["_law_k"]:List Str)++(["_law_tape_here","_law_most"]:List Str))from by decide +kernel))) (fun _ _ _ _ _=>cJ) (fun _ _ _ _ _=>(ac aI mh' (mf' G_law_draw (hr.mono (by decide)) (mc' (mv' 1) (mc' (mv' 2) mn')))))))
   (mz' (cU (i:=4) dB.nd rfl (Or.inr rfl) (ab (bR (mc' mh' (mc' (ac aI mh' (mf' G_law_draw (hr.mono (by decide)) (mc' (mv' 0) (mc' (mv' 2) mn')))) (mc' (mf' G_law_draw (hr.mono (by decide)) (mc' (mv' 0) (mc' mh' mn'))) mn')))) (mf' G_law_draw (hr.mono (by decide)) (mc' (mv' 0) (mc' mh' mn')))))
   (aa (ah (cp (own:=["_law_part"]) (fr:=["_law_parts_here","_law_rest"]) (ps:=[3,4]) (sc:=(ad dl)) (by exact⟨rfl,by decide +kernel,by decide +kernel,by decide +kernel,by decide +kernel⟩) (bG (mv' 3)) (fun _ _ _ _ _=>(ap 0 (show List.Nodup ((["_law_part"]:List Str)++(["_law_parts_here","_law_rest"]:List Str))from by decide +kernel))) (fun _ _ _ _ _=>cJ) (fun _ _ _ _ _=>(mf' G_law_cut (hr.mono (by decide)) (mc' (mv' 0) (mc' (ac aI (al (iM rfl) (by rfl) T.sum rB (mc' (mv' 1) mn')) (mv' 2)) mn')))))))))),?_⟩
 case ar=>rintro as Kc ⟨fd,c,n,rfl,_⟩;rfl
 rintro as Kc hl ⟨fd,c,n,rfl,hf,hc,hn,k⟩;refine ai (MSt.mk [some (.obj 0),some (.imm (.int (n:Int))),none,none,none] [fd] 1) rfl ?_;walk_at"xs";obtain⟨mx,emx,mx1,mx4⟩:∃mx:Nat,atI [PyData.int 1600,.int 40] (if decide ((1:Int)<(n:Int))=true then 1 else 0)=some (.int (mx:Int))/\1≤mx/\mx≤1600:=by
  split
  .exact⟨40,rfl,by decide,by decide⟩
  .exact⟨1600,rfl,by decide,by decide⟩
 refine iC emx ?_;walk_at"xs";refine⟨fd,_,_,rfl,hf,by omega,by decide,by decide,fun i fd hi0 hi1 hf=>?_⟩;walk_at"xn";obtain⟨mo,emo,mo1,mo4⟩:∃mo:Nat,atI [PyData.int 9,PyData.int 3,PyData.int 40,PyData.int (mx:Int)] i=some (.int (mo:Int))/\1≤mo/\mo≤1600:=by
  rcases (show i=0\/i=1\/i=2\/i=3 by omega)with z|z|z|z<;>rw[z]
  .exact⟨9,rfl,by decide,by decide⟩
  .exact⟨3,rfl,by decide,by decide⟩
  .exact⟨40,rfl,by decide,by decide⟩
  .exact⟨mx,rfl,mx1,mx4⟩
 walk_at"xs";refine iC emo ?_;walk_at"xs";refine⟨by omega,by omega,?_⟩;rw[show((n:Int)+1).toNat=n+1 by omega];walk_at"xn";refine bu (fun z m=>∃(a:Option L2.R) (fd':List PyData) (ps:List Nat),m=MSt.mk [a,some (.obj 0),some (.imm (.int (mo:Int)))] [fd',natD ps] 2/\TapeD (c+1+z) fd'/\ps.length=z/\∀p∈ps,1≤p/\p≤1600) ⟨none,fd,[],rfl,hf,rfl,fun _ h=>by cases h⟩ ?_ ?_
 .rintro z d m e hz ⟨a,fd,ps,rfl,hf,hpl,hps⟩ D1 hD1 hR1;obtain⟨hi,rfl⟩:=bQ e;walk_at"xs";refine⟨fd,_,_,rfl,hf,by omega,by omega,by omega,fun q fd hq0 hq1 hf=>?_⟩;walk_at"xn";obtain⟨qn,rfl⟩:=Int.eq_ofNat_of_zero_le hq0;walk_at"xs";refine⟨_,rfl,by rw[sizeLine_eq,aq];omega,hD1 _ ⟨some (.imm (.int (0+(z:Int)))),fd,ps++[1+qn],by rw[rf];rfl,hf,by rw[List.length_append,hpl];rfl,fun x hx=>?_⟩⟩;obtain hx|hx:=List.mem_append.mp hx
  .exact hps x hx
  .rw[List.mem_singleton.mp hx];omega
 rintro m hm ⟨a,fd,ps,rfl,hf,hpl,hps⟩;rw[aE]at hf hpl;walk_at"xn";refine cE ?_;walk_at"xn";refine ai (MSt.mk [some (.obj 0),some (.imm (.int (n:Int))),some (.imm (.int (mo:Int))),some (.obj 1),none] [fd,natD ps] 1) rfl ?_;walk_at"xs";refine⟨fd,_,_,rfl,hf,by omega,by omega,by omega,fun q1 fd hq0 hq1 hf=>?_⟩;walk_at"xn";obtain⟨q1,rfl⟩:=Int.eq_ofNat_of_zero_le hq0;walk_at"xs";refine⟨fd,_,_,rfl,hf,by omega,by omega,by omega,fun q2 fd hr0 hr1 hf=>?_⟩;walk_at"xn";obtain⟨q2,rfl⟩:=Int.eq_ofNat_of_zero_le hr0;walk_at"xs";refine⟨fd,_,_,rfl,hf,by omega,by omega,by omega,fun q3 fd hs0 hs1 hf=>?_⟩;walk_at"xn";obtain⟨re,ere,re4⟩:∃re:Nat,atI [PyData.int 0,PyData.int (1+(q1:Int)),PyData.int (q2:Int)] q3=some (.int (re:Int))/\re≤1601:=by
  rcases (show q3=0\/q3=1\/q3=2 by omega)with z|z|z<;>rw[z]
  .exact⟨0,rfl,by decide⟩
  .exact⟨1+q1,by rw[Int.natCast_add];rfl,by omega⟩
  .exact⟨q2,rfl,by omega⟩
 walk_at"xs";refine iC ere ?_;walk_at"xs";have hsum:=zP fun p hp=>(hps p hp).2;walk_at"xn";refine uY (fun z m=>∃a,m=MSt.mk [a,some (.obj 1),some (.imm (.int (re:Int)))] [fd,natD ps,((ps.take z).map (cutN (ps.sum+re))).map prD] 3) ⟨none,rfl⟩ ?_ ?_ ?_
 .rintro z m ⟨a,rfl⟩;rfl
 .rintro z d m ez nz ⟨a,rfl⟩ D2 hD2;obtain⟨p,ep,rfl,hz⟩:=gmap ez;have hp:=hps p (List.mem_of_getElem? ep);have hp2:=lW (List.mem_of_getElem? ep);walk_at"xs";refine ui rfl (w5 ps) ?_;rw[sumZ];walk_at"xs";refine⟨(p:Int),ps.sum+re,by rw[Int.natCast_add],by omega,Nat.lt_of_le_of_lt (show((p:Nat):Int).natAbs≤1600 by omega) (by decide),Nat.lt_of_le_of_lt (show ps.sum+re≤100000 by omega) (by decide),?_⟩;rw[IA (by omega)];walk_at"xx";refine⟨_,rfl,by rw[sizeLine_eq,List.length_map,List.length_map,List.length_take];omega,hD2 _ ⟨some (.imm (.int (p:Int))),?_⟩⟩;rw[List.take_add_one,ep,List.map_append,List.map_append];rfl
 .rintro m hm ⟨a,rfl⟩;rw[aq,List.take_length];walk_at"xs";exact k ps (ps.sum+re) fd hpl hps (by have:=List.length_pos_iff.mp (show 0<ps.length by omega);cases ps with|nil=>exact(this rfl).elim|cons x ps=>have:=hps x List.mem_cons_self;simp only[List.sum_cons];omega) (by omega) (by omega) (hf.mono (by omega))
theorem o7(T:Bl K mg)(D:DefM K mg "_law_hall" fT ["_law_tape_here","_law_menu"])(G_law_draw:FnM P w K mg base "_law_draw" 1 2 jG)(G_law_parts:FnM P w K mg base "_law_parts" 3 2 qC):FnM P w K mg base "_law_hall" 4 2 vP:=by
 refine aQ D bw rfl (nN:=8) rfl (by decide) ?ar fun cdv A outer s H E f hr=>⟨_,(mz' (cU (i:=2) bw.nd rfl (Or.inr rfl) (ab (mv' 1) (mf' G_law_draw (hr.mono (by decide)) (mc' (mv' 0) (mc' (al aK (by rfl) T.len bX (mc' (mv' 1) mn')) mn')))))
   (mz' (ag 3 bw.nd (mf' G_law_parts (hr.mono (by decide)) (mc' (mv' 0) (mc' (al aK (by rfl) T.len bX (mc' (mv' 2) mn')) mn'))))
   (mz' (cU (i:=4) bw.nd rfl (Or.inr rfl) (cu dY (mv' 3) (c6 mh') cY))
   (mz' (aM (ak (ba hr.units) (mf' G_law_draw (hr.mono (by decide)) (mc' (mv' 0) (mc' mh' mn'))) mh' (az _)) (mz' (cU (i:=2) bw.nd rfl (Or.inr rfl) (ac av (cu dY (mv' 2) cY (c6 mh')) (al aK (by rfl) T.len bX (mc' (mv' 2) mn'))))
   (mz' (ag 5 bw.nd (ab (mv' 4) mh'))
   (mz' (bf (bG (mv' 4)) (ap 6 bw.nd) (aa (aM (ak i7 (ac av (ab (mv' 6) mh') (ab (mv' 5) mh')) (ac av (ab (mv' 5) mh') (ab (mv' 6) mh')) (az _)) (aa (ag 5 bw.nd (mv' 6))) am)) PassesOwn.never)
   (aa (cU (i:=4) bw.nd rfl (Or.inr rfl) (ac av (bR (mc' (mv' 5) mn')) (al aK (by rfl) T.len bX (mc' (mv' 2) mn')))))))) am)
   (mz' (ag 7 bw.nd (da gi (by rfl) T.tuple mh (mc' (cp (own:=["_law_k"]) (fr:=["_law_speeds","_law_rooms"]) (ps:=[4,2]) (sc:=(ad fT)) (by exact⟨rfl,by decide +kernel,by decide +kernel,by decide +kernel,by decide +kernel⟩) (bz (by rfl) T.range (mc' (al aK (by rfl) T.len bX (mc' (mv' 2) mn')) mn')) (fun _ _ _ _ _=>(ap 0 (show List.Nodup ((["_law_k"]:List Str)++(["_law_speeds","_law_rooms"]:List Str))from by decide +kernel))) (fun _ _ _ _ _=>cJ) (fun _ _ _ _ _=>(ae (mc' (ab (mv' 1) (mv' 0)) (mc' (ab (mv' 2) (mv' 0)) mn'))))) mn')))
   (aa (ah (ae (mc' (ab (mv' 3) mh') (mc' (mv' 7) (mc' (iI (ba hr.units) (mf' G_law_draw (hr.mono (by decide)) (mc' (mv' 0) (mc' mh' mn'))) mh' (az _)) mn'))))))))))),?_⟩
 case ar=>rintro as Kc ⟨fd,c,ms,rfl,_⟩;rfl
 rintro as Kc hl ⟨fd,c,ms,rfl,⟨hne,hml,hms⟩,hf,hc,k⟩;have hm0:0<ms.length:=List.length_pos_iff.mpr hne;refine ai (MSt.mk [some (.obj 0),some (.imm (.list (ms.map lnD))),none,none,none,none,none,none] [fd] 1) rfl ?_;walk_at"xs";rw[List.length_map];refine⟨fd,_,_,rfl,hf,by omega,by omega,by omega,fun i fd hi0 hi1 hf=>?_⟩;obtain⟨i,rfl⟩:=Int.eq_ofNat_of_zero_le hi0;obtain⟨rs,ers⟩:∃rs,ms[i]?=some rs:=⟨_,List.getElem?_eq_getElem (show i<ms.length by omega)⟩;obtain⟨r1,r4,hr⟩:=hms rs (List.mem_of_getElem? ers);walk_at"xn";refine qe (d:=lnD rs) (ay (by rw[List.getElem?_map,ers];rfl)) ?_;walk_at"xs";dsimp only[lnD];walk_at"xs";rw[aq];refine⟨fd,_,rs.length,rfl,hf,by omega,r4,fun ns S fd hpl hps hS1 hS2 hSs hf=>?_⟩;walk_at"xn";refine cE ?_;walk_at"xx";refine cE ?_;obtain⟨p0,sp,rfl⟩:∃p0 sp,ns=p0::sp:=by
  cases ns with
  |nil=>simp at hpl
  |cons p0 sp=>exact⟨p0,sp,rfl⟩
 have hsl:sp.length=rs.length:=by simpa using hpl
 have h0:=hps p0 List.mem_cons_self;have hsp:∀p∈sp,1≤p/\p≤1600:=fun p hp=>hps p (List.mem_cons_of_mem _ hp);have ecut:cutD (((p0::sp).map (cutN S)).map prD) (some 1) none=(sp.map (cutN S)).map prD:=by
  rw[show(1:Int)=((1:Nat):Int)from rfl,jT];rfl
 rw[ecut];walk_at"xn";refine fh ?_;refine x_JS (fun m=>∃(rs':List Nat) (sp':List Nat) (a b:Option L2.R) (fd':List PyData),m=MSt.mk [some (.obj 0),some (.imm (.list (ms.map lnD))),some (.imm (.tuple (natD rs'))),some (.obj 1),some (.obj 2),a,b,none] [fd',((p0::sp).map (cutN S)).map prD,(sp'.map (cutN S)).map prD] 1/\TapeD (c+12) fd'/\rs'.length=rs.length/\sp'.length=rs.length/\(∀r∈rs',1≤r/\r≤6)/\(∀p∈sp',1≤p/\p≤1600)/\sp'.sum≤sp.sum) (fun N J=>?_) ?_
 .walk_at"xs";refine⟨fd,_,_,rfl,hf,by omega,by omega,by omega,fun q1 fd hq0 hq1 hf=>?_⟩;walk_at"xx";refine aA (fun z=>?_) (fun z=>?_)
  .walk_at"xs";obtain⟨r0,rt,rfl⟩:∃r0 rt,rs=r0::rt:=by
    cases rs with
    |nil=>simp at r1
    |cons r0 rt=>exact⟨r0,rt,rfl⟩
   obtain⟨s0,st,rfl⟩:∃s0 st,sp=s0::st:=by
    cases sp with
    |nil=>simp at hsl
    |cons s0 st=>exact⟨s0,st,rfl⟩
   have ec1:cutD (natD (r0::rt)) none (some 1)=[.int (r0:Int)]:=by
    rw[show(1:Int)=((1:Nat):Int)from rfl,j4];rfl
   rw[ec1,aq];generalize hn:(r0::rt).length=n at *;refine z6 (by omega) (by omega) (by simp;omega) ?_;rw[Int.toNat_natCast,qZ,x6];walk_at"xs";refine lS (d:=prD (cutN S s0)) rfl (show atI (((s0::st).map (cutN S)).map prD) 0=some (prD (cutN S s0))from ay (j:=0) (xs:=((s0::st).map (cutN S)).map prD) rfl) ?_;walk_at"xs";refine uY (fun z m=>∃(q:Nat) (b:Option PyData),m=MSt.mk [some (.obj 0),some (.imm (.list (ms.map lnD))),some (.imm (.tuple (natD (List.replicate n r0)))),some (.obj 1),some (.obj 2),some (.imm (prD (cutN S q))),b.map L2.R.imm,none] [fd,((p0::s0::st).map (cutN S)).map prD,((s0::st).map (cutN S)).map prD] 3/\q∈s0::st/\∀x∈(s0::st).take z,q≤x) ?_ ?_ ?_ ?_
   .exact⟨s0,none,rfl,List.mem_cons_self,fun _ h=>by cases h⟩
   .rintro z m ⟨q,b,rfl,_⟩;rfl
   .rintro z d m ez nz ⟨q,b,rfl,hq,hmn⟩ D2 hD2;obtain⟨p',ep',rfl,hz⟩:=gmap ez;obtain⟨p,ep,rfl,hz'⟩:=gmap ep';have b1:=hsp p (List.mem_of_getElem? ep);have b2:=hsp q hq;have c1:=lm (b:=S) (p:=p) b1.1 (by omega) hS1 (by omega);have c2:=lm (b:=S) (p:=q) b2.1 (by omega) hS1 (by omega);have lt:=IG (S:=S) (p:=p) (q:=q) hS1;have tk:∀y,(∀x∈(s0::st).take z,y≤x)->y≤p->∀x∈(s0::st).take (z+1),y≤x:=fun y h1 h2 x hx=>by
     rw[List.take_add_one,ep]at hx;obtain hx|hx:=List.mem_append.mp hx
     .exact h1 x hx
     .rw[List.mem_singleton.mp hx];exact h2
    dsimp only[prD];walk_at"xs";refine aA (fun z=>?_) (fun z=>?_)
    .walk_at"xs";have hlt:=lt.mp (Int.ofNat_lt.mp (by rw[Int.natCast_mul,Int.natCast_mul];exact z));exact hD2 _ ⟨p,some (prD (cutN S p)),rfl,List.mem_of_getElem? ep,tk p (fun x hx=>Nat.le_trans (Nat.le_of_lt hlt) (hmn x hx)) (Nat.le_refl _)⟩
    .walk_at"xs";refine hD2 _ ⟨q,some (prD (cutN S p)),rfl,hq,tk q hmn (Nat.le_of_not_lt fun y=>z ?_)⟩;have:=Int.ofNat_lt.mpr (lt.mpr y);rwa[Int.natCast_mul,Int.natCast_mul]at this
   .rintro m hm ⟨q,b,rfl,hq,hmn⟩;rw[List.length_map,List.length_map,List.take_length]at hmn;walk_at"xs";rw[aq,List.length_replicate];refine Gy (by omega) (by omega) (by simp;omega) ?_;rw[Int.toNat_natCast,qZ];refine kZ (k:=2) rfl (show 1≤2 by decide) (fun j hj=>?_) (J _ ⟨List.replicate n r0,List.replicate n q,some (.imm (prD (cutN S q))),b.map L2.R.imm,fd,by rw[List.map_replicate,List.map_replicate];rfl,hf.mono (by omega),by rw[List.length_replicate],by rw[List.length_replicate],fun r hr'=>?_,fun p hp=>?_,?_⟩)
    .match j with
     |0|1|2|3|5|7=>exact fun z=>by cases z
     |6=>cases b with
      |none=>exact fun z=>by cases z
      |some b=>exact fun z=>by cases z
     |4=>exact(hj rfl).elim
     |n+8=>exact fun z=>by cases z
    .rw[List.eq_of_mem_replicate hr'];exact hr r0 List.mem_cons_self
    .rw[List.eq_of_mem_replicate hp];exact hsp q hq
    .exact kI (by omega) hmn
  .walk_at"xs";exact J _ ⟨rs,sp,none,none,fd,rfl,hf.mono (by omega),rfl,hsl,hr,hsp,Nat.le_refl _⟩
 rintro _ ⟨rs',sp',a,b,fd,rfl,hf,hrl,hsl',hr',hsp',hsum⟩;walk_at"xx";rw[aq];refine⟨by omega,by omega,?_⟩;rw[Int.toNat_natCast];walk_at"xn";refine bu (fun z m=>∃a,m=MSt.mk [a,some (.obj 2),some (.imm (.tuple (natD rs')))] [fd,((p0::sp).map (cutN S)).map prD,(sp'.map (cutN S)).map prD,((List.zipWith (srvS S) sp' rs').take z).map Srv.d] 4) ⟨none,rfl⟩ ?_ ?_
 .rintro z d m e hz ⟨a,rfl⟩ D1 hD1 hR1;obtain⟨hi,rfl⟩:=bQ e;obtain⟨r,er⟩:∃r,rs'[z]?=some r:=⟨_,List.getElem?_eq_getElem (by omega)⟩;obtain⟨p,ep⟩:∃p,sp'[z]?=some p:=⟨_,List.getElem?_eq_getElem (by omega)⟩;rw[show(0:Int)+(z:Int)=((z:Nat):Int) by omega];walk_at"xs";refine lS (d:=prD (cutN S p)) rfl (ay (by rw[List.getElem?_map,List.getElem?_map,ep];rfl)) ?_;walk_at"xs";refine aD (ay (aF er)) ?_;walk_at"xs";refine⟨_,rfl,by rw[sizeLine_eq,List.length_map,List.length_take];omega,hD1 _ ⟨some (.imm (.int (z:Int))),?_⟩⟩;rw[List.take_add_one,List.getElem?_zipWith_eq_some.mpr ⟨p,r,ep,er,rfl⟩,List.map_append];rfl
 .rintro m hm ⟨a',rfl⟩;have ezl:(List.zipWith (srvS S) sp' rs').length=rs'.length:=by rw[List.length_zipWith];omega
  rw[aE,<-ezl,List.take_length];walk_at"xs";refine lS (d:=prD (cutN S p0)) rfl (show atI (((p0::sp).map (cutN S)).map prD) 0=some (prD (cutN S p0))from ay (j:=0) (xs:=((p0::sp).map (cutN S)).map prD) rfl) ?_;walk_at"xs";refine⟨fd,_,_,rfl,hf,by omega,by omega,by omega,fun q fd hq0 hq1 hf=>?_⟩;walk_at"xx";have c0:=lm (b:=S) (p:=p0) h0.1 (by omega) hS1 (by omega);rw[List.sum_cons]at hSs;refine k (uk S p0 sp' rs' (decide (q=0))) S fd ⟨c0.1,c0.2.1,c0.2.2.1,c0.2.2.2,by show 1≤(List.zipWith (srvS S) sp' rs').length;omega,by show(List.zipWith (srvS S) sp' rs').length≤4;omega,fun s hs=>?_⟩ (yC hS1 hS2 (by omega) (by omega)) (hf.mono (by omega));obtain⟨i,hi⟩:=List.getElem?_of_mem hs;obtain⟨p,r,e1,e2,rfl⟩:=List.getElem?_zipWith_eq_some.mp hi;have hp:=hsp' p (List.mem_of_getElem? e1);exact yY (lm (b:=S) (p:=p) hp.1 (by omega) hS1 (by omega)) (hr' r (List.mem_of_getElem? e2))
theorem jg(T:Bl K mg)(D:DefM K mg "_law_all_lines" ck ["_law_hall_here"]):FnM P w K mg base "_law_all_lines" 1 1 yM:=by
 refine aQ D bc rfl (nN:=6) rfl (by decide) ?ar fun cdv A outer s H E f hr=>⟨_,(mz' (ag 1 bc.nd (bR (mc' (ae mn') mn')))
   (mz' (bf (bG (ab (mv' 0) mh')) (bo (n:=2) (af (ap 2 bc.nd) (af (ap 3 bc.nd) aY))) (mz' (ag 4 bc.nd (bR mn'))
   (mz' (bf (bG (mv' 1)) (lD (i:=5) bc.nd rfl (Or.inr rfl)) (aa (d4 (iX PySem.F.slot_list_extend PySem.F.type_list_extend kw (mv' 4) (mc' (cp (own:=["_law_many"]) (fr:=["_law_lines"]) (ps:=[5]) (sc:=(ad ck)) (by exact⟨rfl,by decide +kernel,by decide +kernel,by decide +kernel,by decide +kernel⟩) (bz (by rfl) T.range (mc' (ac aI (mv' 3) mh') mn')) (fun _ _ _ _ _=>(ap 0 (show List.Nodup ((["_law_many"]:List Str)++(["_law_lines"]:List Str))from by decide +kernel))) (fun _ _ _ _ _=>cJ) (fun _ _ _ _ _=>(ac aI (mv' 1) (ae (mc' (mv' 0) mn'))))) mn')))) PassesOwn.never)
   (aa (ag 1 bc.nd (mv' 4))))) PassesOwn.never)
   (aa (ah (mv' 1))))),?_⟩
 case ar=>rintro as Kc ⟨h,rfl,_⟩;rfl
 rintro as Kc hl ⟨h,rfl,ho,k⟩;refine ai (MSt.mk [some (.imm (.tuple [.tuple [.int h.a,.int h.b],.tuple (h.ss.map Srv.d),.bool h.mv])),none,none,none,none,none] [] 0) rfl ?_;walk_at"xs";refine cE ?_;walk_at"xx";refine dI (fun i m=>∃a b c,m=MSt.mk [some (.imm (.tuple [.tuple [.int h.a,.int h.b],.tuple (h.ss.map Srv.d),.bool h.mv])),some (.obj 0),a,b,none,c] [(((h.rs.take i).foldl M3.stepL [[]]).map lnD)] 0) ⟨none,none,none,rfl⟩ ?_ ?_
 .rintro i d m e n ⟨a,b,c,rfl⟩;obtain⟨s,es,rfl,hi⟩:=gmap e;have r1:=(ho.ok s (List.mem_of_getElem? es)).r1;have r6:=(ho.ok s (List.mem_of_getElem? es)).r6;have hrl:=h.rsl;generalize hprev:(h.rs.take i).foldl M3.stepL [[]]=prev;have hpl:∀a∈prev,a.length≤4:=by
   intro a ha;rw[<-hprev]at ha;have:=M3.allR_len (by rw[<-M3.allL_eq];exact ha);rw[this,List.length_take];have:=ho.n4;omega
  have hpn:prev.length≤2401:=by
   rw[<-hprev];exact M3.fold_small (by rw[List.length_take];have:=ho.n4;omega) (fun r hr=>ho.r6 r (List.mem_of_mem_take hr))
  have hfold:((h.rs.take (i+1)).foldl M3.stepL [[]])=M3.stepL prev s.r:=by
   rw[List.take_add_one,Hall.rs_get es,List.foldl_append,hprev];rfl
  rw[hfold];dsimp only[Srv.d];walk_at"xs"
  .rfl
  walk_at"xs";refine cE ?_;walk_at"xx";refine iE (fun i m=>∃a,m=MSt.mk [some (.imm (.tuple [.tuple [.int h.a,.int h.b],.tuple (h.ss.map Srv.d),.bool h.mv])),some (.obj 0),some (.imm (.tuple [.int s.a,.int s.b])),some (.imm (.int s.r)),some (.obj 1),a] [prev.map lnD,(M3.stepL (prev.take i) s.r).map lnD] 1) ⟨c,rfl⟩ ?_ ?_ ?_
  .rintro j m ⟨a,rfl⟩;rfl
  .rintro j d m ej nj ⟨a,rfl⟩;obtain⟨l,el,rfl,hj⟩:=gmap ej;have hl4:=hpl l (List.mem_of_getElem? el);walk_at"xs";refine⟨by omega,by omega,?_⟩;have en:((s.r:Int)+1).toNat=s.r+1:=by omega
   rw[en];walk_at"xn";refine bu (fun z m=>∃b,m=MSt.mk [b,some (.imm (lnD l))] [prev.map lnD,(M3.stepL (prev.take j) s.r).map lnD,((List.range z).map fun y=>l++[y]).map lnD] 3) ⟨none,rfl⟩ ?_ ?_
   .rintro z dz m ez nz ⟨b,rfl⟩ D1 hD1 hR1;obtain⟨hz,rfl⟩:=bQ ez;walk_at"xs";refine jx (by rw[sizeLine_eq,aq];simp;omega) ?_;walk_at"xs";refine⟨_,rfl,by rw[sizeLine_eq];simp;omega,hD1 _ ⟨some (.imm (.int (0+(z:Int)))),?_⟩⟩;have ee:((List.range (z+1)).map fun y=>l++[y]).map lnD=((List.range z).map fun y=>l++[y]).map lnD++[.tuple (natD l++[.int (0+(z:Int))])]:=by
     rw[List.range_succ];simp[lnD,natD]
    rw[ee];rfl
   .rintro m n ⟨b,rfl⟩;rw[aE];walk_at"xs";have hz:((M3.stepL (prev.take j) s.r).map lnD).length+(((List.range (s.r+1)).map fun y=>l++[y]).map lnD).length≤sizeLine:=by
     rw[sizeLine_eq,List.length_map,List.length_map,List.length_map,List.length_range,M3.stepL_length,List.length_take];have:min j prev.length*(s.r+1)≤2401*7:=Nat.mul_le_mul (by omega) (by omega);omega
    refine' xQ (ds:=(M3.stepL (prev.take j) s.r).map lnD) ?eb hz ?_
    case eb=>rfl
    have ee:(M3.stepL (prev.take (j+1)) s.r).map lnD=(M3.stepL (prev.take j) s.r).map lnD++((List.range (s.r+1)).map fun y=>l++[y]).map lnD:=by
     rw[M3.stepL_take el,List.map_append]
    rw[ee];exact⟨_,rfl⟩
  .rintro m n ⟨a,rfl⟩;rw[List.length_map,List.take_length];walk_at"xn";refine pQ ?_;refine CV rfl ?_;refine mJ [1] (MSt.mk [some (.imm (.tuple [.tuple [.int h.a,.int h.b],.tuple (h.ss.map Srv.d),.bool h.mv])),some (.obj 0),some (.imm (.tuple [.int s.a,.int s.b])),some (.imm (.int s.r)),none,none] [(M3.stepL prev s.r).map lnD] 0) (wq rfl rfl rfl rfl rfl rfl ⟨rfl,⟨1,rfl,rfl⟩,rfl,rfl,trivial,trivial,trivial⟩) ⟨_,_,_,rfl⟩
 .rintro m n ⟨a,b,c,rfl⟩;rw[List.length_map,<-h.rsl,List.take_length,show h.rs.foldl M3.stepL [[]]=M3.allL h.rs from rfl,M3.allL_eq];walk_at"xs";exact k
theorem pC(T:Bl K mg)(D:DefM K mg "_law_rule" fV ["_law_tape_here","_law_hall_here"])(G_law_draw:FnM P w K mg base "_law_draw" 1 2 jG)(G_law_all_lines:FnM P w K mg base "_law_all_lines" 1 1 yM):FnM P w K mg base "_law_rule" 2 2 vm:=by
 refine aQ D j6 rfl (nN:=3) rfl (by decide) ?ar fun cdv A outer s H E f hr=>⟨_,(mz' (ag 2 j6.nd (ab (bR (mc' aB (mc' aB (mc' aB (mc' aB (mc' aB (mc' aB mn'))))))) (mf' G_law_draw (hr.mono (by decide)) (mc' (mv' 0) (mc' mh' mn')))))
   (mz' (aM (ak (ou hr.units) (mv' 2) aB (az _)) (aa (ah (ae (mc' (mv' 2) mn')))) am)
   (aa (ah (ae (mc' (mv' 2) (mc' (da gi (by rfl) T.tuple mh (mc' (cp (own:=["_law_lines"]) (fr:=["_law_tape_here","_law_hall_here"]) (ps:=[0,1]) (sc:=(ad fV)) (by exact⟨rfl,by decide +kernel,by decide +kernel,by decide +kernel,by decide +kernel⟩) (bG (dG (mf' G_law_all_lines (hr.mono (by decide)) (mc' (mv' 1) mn')))) (fun _ _ _ _ _=>(ap 0 (show List.Nodup ((["_law_lines"]:List Str)++(["_law_tape_here","_law_hall_here"]:List Str))from by decide +kernel))) (fun _ _ _ _ _=>cJ) (fun _ _ _ _ _=>(mf' G_law_draw (hr.mono (by decide)) (mc' (mv' 1) (mc' (al aK (by rfl) T.len bX (mc' (ab (mv' 2) mh') mn')) mn'))))) mn')) mn'))))))),?_⟩
 case ar=>rintro as Kc ⟨fd,c,h,rfl,_⟩;rfl
 rintro as Kc hl ⟨fd,c,h,rfl,ho,hf,hc,k⟩;have n1:=ho.n1;have n4:=ho.n4;refine ai (MSt.mk [some (.obj 0),some (.imm (.tuple [.tuple [.int h.a,.int h.b],.tuple (h.ss.map Srv.d),.bool h.mv])),none] [fd] 1) rfl ?_;walk_at"xs";refine⟨fd,_,c,rfl,hf,by omega,by decide,by decide,fun r fd hr0 hr1 hf=>?_⟩;walk_at"xx";have five:∀(q:Rule) (x:Str),atI [PyData.str "random",.str "two",.str "least",.str "quick",.str "turns",.str "told"] r=some (.str x)->q.d = .tuple [.str x]->q.Ok h->x ≠ "told" -> ∃d,atI [PyData.str "random",.str "two",.str "least",.str "quick",.str "turns",.str "told"] r=some d/\((∃x q,d = .str x/\x ≠ "told" /\ Rule.d q = .tuple [.str x]/\q.Ok h)\/d = .str "told"):=fun q x e1 e2 e3 e4=>⟨_,e1,.inl ⟨x,q,rfl,e4,e2,e3⟩⟩;obtain⟨d,ed,hd⟩:∃d,atI [PyData.str "random",.str "two",.str "least",.str "quick",.str "turns",.str "told"] r=some d/\((∃x q,d = .str x/\x ≠ "told" /\ Rule.d q = .tuple [.str x]/\q.Ok h)\/d = .str "told"):=by
  rcases (show r=0\/r=1\/r=2\/r=3\/r=4\/r=5 by omega)with rfl|rfl|rfl|rfl|rfl|rfl
  .exact five .random "random" rfl rfl trivial (by decide +kernel)
  .exact five .two "two" rfl rfl trivial (by decide +kernel)
  .exact five .least "least" rfl rfl trivial (by decide +kernel)
  .exact five .quick "quick" rfl rfl trivial (by decide +kernel)
  .exact five .turns "turns" rfl rfl trivial (by decide +kernel)
  .exact⟨_,rfl,.inr rfl⟩
 refine iC ed ?_;rcases hd with⟨x,q,rfl,hx,eq,qo⟩|rfl
 .walk_at"xs";rw[decide_eq_false hx];refine iW ?_;walk_at"xs";rw[<-eq];exact k q fd qo (hf.mono (by omega))
 .walk_at"xs";rw[decide_eq_true rfl];refine gg ?_;walk_at"xs";refine⟨h,rfl,ho,?_⟩;walk_at"xx";walk_at"xn";have hsm:(M3.allR h.rs).length≤2401:=ip (by rw[h.rsl];exact n4) ho.r6;refine dI (fun i m=>∃a fd' ps,m=MSt.mk [a,some (.obj 0),some (.imm (.tuple [.tuple [.int h.a,.int h.b],.tuple (h.ss.map Srv.d),.bool h.mv]))] [fd',natD ps] 2/\TapeD (c+1+i) fd'/\ps.length=i/\∀p∈ps,p<h.ss.length) ⟨none,fd,[],rfl,hf,rfl,fun _ h=>by cases h⟩ ?_ ?_
  .rintro i d m e n ⟨a,fd',ps,rfl,hf',hpl,hps⟩;obtain⟨l,el,rfl,hi⟩:=gmap e;walk_at"xs";refine⟨fd',_,_,rfl,hf',by omega,by rw[List.length_map];omega,by rw[List.length_map];omega,fun p fd2 hp0 hp1 hf2=>?_⟩;rw[List.length_map]at hp1;walk_at"xx";obtain⟨pn,rfl⟩:=Int.eq_ofNat_of_zero_le hp0;refine⟨_,rfl,by rw[sizeLine_eq,aq];omega,_,fd2,ps++[pn],by rw[rf];rfl,hf2,by simp;omega,fun p hp=>?_⟩;obtain z|z:=List.mem_append.mp hp
   .exact hps p z
   .simp at z;subst z;omega
  .rintro m n ⟨a,fd',ps,rfl,hf',hpl,hps⟩;rw[List.length_map]at hf' hpl;walk_at"xs";exact k (.told ps) fd' ⟨hpl,hps⟩ (hf'.mono (by omega))
theorem lj(T:Bl K mg)(D:DefM K mg "_law_orders" dt ["_law_many"]):FnM P w K mg base "_law_orders" 1 1 Ab:=by
 refine aQ D bZ rfl (nN:=5) rfl (by decide) ?ar fun cdv A outer s H E f hr=>⟨_,(mz' (ag 1 bZ.nd (bR (mc' (ae mn') mn')))
   (mz' (bf (bz (by rfl) T.range (mc' (mv' 0) mn')) (ap 2 bZ.nd) (mz' (ag 3 bZ.nd (bR mn'))
   (mz' (bf (bG (mv' 1)) (lD (i:=4) bZ.nd rfl (Or.inr rfl)) (aa (d4 (iX PySem.F.slot_list_extend PySem.F.type_list_extend kw (mv' 3) (mc' (cp (own:=["_law_k"]) (fr:=["_law_order"]) (ps:=[4]) (sc:=(ad dt)) (by exact⟨rfl,by decide +kernel,by decide +kernel,by decide +kernel,by decide +kernel⟩) (bz (by rfl) T.range (mc' (mv' 0) mn')) (fun _ _ _ _ _=>(ap 0 (show List.Nodup ((["_law_k"]:List Str)++(["_law_order"]:List Str))from by decide +kernel))) (fun _ _ _ _ _=>(qL (ak (kh hr.units) (mv' 0) (mv' 1) (by with_unfolding_all rfl)))) (fun _ _ _ _ _=>(ac aI (mv' 1) (ae (mc' (mv' 0) mn'))))) mn')))) PassesOwn.never)
   (aa (ag 1 bZ.nd (mv' 3))))) PassesOwn.never)
   (aa (ah (mv' 1))))),?_⟩
 case ar=>rintro as Kc ⟨n,rfl,_⟩;rfl
 rintro as Kc hl ⟨n,rfl,n4,k⟩;refine ai (MSt.mk [some (.imm (.int (n:Int))),none,none,none,none] [] 0) rfl ?_;walk_at"xs";refine cE ?_;walk_at"xx";refine⟨by omega,by omega,?_⟩;rw[Int.toNat_natCast];refine dI (fun i m=>∃a b,m=MSt.mk [some (.imm (.int (n:Int))),some (.obj 0),a,none,b] [(ordK n i).map lnD] 0) ⟨none,none,rfl⟩ ?_ ?_
 .rintro i d m e hnp ⟨a,b,rfl⟩;obtain⟨hi,rfl⟩:=bQ e;obtain⟨hk1,hk2⟩:=ci n n4 i (by omega);have hk3:=f9 n n4 i (by omega);rw[show ordK n (i+1)=gu n (ordK n i)from rfl];generalize ordK n i=os at hk1 hk2 hk3;walk_at"xs";refine cE ?_;walk_at"xx";refine iE (fun z m=>∃c d,m=MSt.mk [some (.imm (.int (n:Int))),some (.obj 0),c,some (.obj 1),d] [os.map lnD,(gu n (os.take z)).map lnD] 1) ⟨_,_,rfl⟩ ?_ ?_ ?_
  .rintro z m ⟨c,d,rfl⟩;rfl
  .rintro z d m ez nz ⟨c,d',rfl⟩;obtain⟨l,el,rfl,hz⟩:=gmap ez;obtain⟨hl4,hl3⟩:=hk2 l (List.mem_of_getElem? el);have hzl:=(List.getElem?_eq_some_iff.mp el).1;have hz24:=hk3 z (by omega);walk_at"xs";refine⟨by omega,by omega,?_⟩;rw[Int.toNat_natCast];walk_at"xn";refine dI (fun y m=>∃c,m=MSt.mk [c,some (.imm (lnD l))] [os.map lnD,(gu n (os.take z)).map lnD,(((List.range y).filter fun q=>!l.contains q).map fun q=>l++[q]).map lnD] 3) ⟨none,rfl⟩ ?_ ?_
   .rintro y d m ey ny ⟨c,rfl⟩;obtain⟨hy,rfl⟩:=bQ ey;rw[show(0:Int)+(y:Int)=((y:Nat):Int) by omega];have hin:(natD l).any (fun x=>PyData.eqv x (.int (y:Int)))=l.contains y:=by
     rw[Bool.eq_iff_iff,List.any_eq_true];rw[List.contains_iff_mem];constructor
     .rintro⟨x,hx,ex⟩;obtain⟨w,hw,rfl⟩:=List.mem_map.mp hx;rw[cb]at ex;rw[<-of_decide_eq_true ex];exact hw
     .intro hm;exact⟨_,List.mem_map.mpr ⟨y,hm,rfl⟩,by rw[cb];exact decide_eq_true rfl⟩
    have hlen:(((List.range y).filter fun q=>!l.contains q).map fun q=>l++[q]).length≤4:=by
     rw[List.length_map];have:=List.length_filter_le (fun q=>!l.contains q) (List.range y);rw[List.length_range]at this;omega
    walk_at"xs";refine x_in (d:=.int (y:Int)) (ds:=natD l) rfl (.inr rfl) (d7 _) (d6 l) (by decide) ?_;walk_at"xs";rw[hin];rw[List.range_succ,List.filter_append,List.map_append,List.map_append]
    cases hc:l.contains y with
    |true =>
     refine gg ?_;walk_at"xs";refine⟨some (.imm (.int (y:Int))),?_⟩;rw[show([y].filter fun q=>!l.contains q)=[] by rw[List.filter_cons,hc];rfl,List.map_nil,List.map_nil,List.append_nil];rfl
    |false =>
     refine iW ?_;walk_at"xs";refine jx (by rw[sizeLine_eq,aq];simp;omega) ?_;walk_at"xs";refine⟨_,rfl,by rw[sizeLine_eq,List.length_map];omega,some (.imm (.int (y:Int))),?_⟩;rw[show([y].filter fun q=>!l.contains q)=[y] by rw[List.filter_cons,hc];rfl];simp[lnD,natD,MSt.setV]
   .rintro m ny ⟨c,rfl⟩;rw[aE];walk_at"xx";have hst:=ku (n:=n) el;refine⟨_,rfl,by show((gu n (os.take z)).map lnD).length+((((List.range n).filter fun q=>!l.contains q).map fun q=>l++[q]).map lnD).length≤sizeLine;rw[sizeLine_eq,List.length_map,List.length_map,List.length_map];have:=List.length_filter_le (fun q=>!l.contains q) (List.range n);rw[List.length_range]at this;omega,?_⟩;rw[hst,List.map_append];exact⟨_,_,rfl⟩
  .rintro m nz ⟨c,d',rfl⟩;rw[List.length_map,List.take_length];walk_at"xn";refine pQ (CV rfl (mJ [1] (MSt.mk [some (.imm (.int (n:Int))),some (.obj 0),none,none,none] [(gu n os).map lnD] 0) (wq rfl rfl rfl rfl rfl rfl ⟨rfl,⟨1,rfl,rfl⟩,trivial,trivial,trivial,trivial⟩) ⟨_,_,rfl⟩))
 .rintro m hnp ⟨a,b,rfl⟩;rw[aE];walk_at"xs";exact k
theorem kj(T:Bl K mg)(D:DefM K mg "_law_soonest" fb ["_law_hall_here","_law_lines","_law_order"]):FnM P w K mg base "_law_soonest" 1 3 oA:=by
 refine aQ D bv rfl (nN:=8) rfl (by decide) ?ar fun cdv A outer s H E f hr=>⟨_,(mz' (ag 3 bv.nd (ab (mv' 2) mh'))
   (mz' (bf (bG (mv' 2)) (ap 4 bv.nd) (mz' (ag 5 bv.nd (ab (ab (ab (mv' 0) mh') (mv' 4)) mh'))
   (mz' (ag 6 bv.nd (ab (ab (ab (mv' 0) mh') (mv' 3)) mh'))
   (mz' (ag 7 bv.nd (ac av (ac av (ac aI (ab (mv' 1) (mv' 4)) mh') (ab (mv' 5) mh')) (ab (mv' 6) mh')))
   (aa (aM (ak i7 (mv' 7) (ac av (ac av (ac aI (ab (mv' 1) (mv' 3)) mh') (ab (mv' 6) mh')) (ab (mv' 5) mh')) (az _)) (aa (ag 3 bv.nd (mv' 4))) am))))) PassesOwn.never)
   (aa (ah (mv' 3))))),?_⟩
 case ar=>rintro as Kc ⟨h,l,o,rfl,_⟩;rfl
 rintro as Kc hl ⟨h,l,o,rfl,ho,hL,hO,k⟩;obtain⟨o0,os,rfl,h0⟩:=hO.cons;refine ai (MSt.mk [some (.imm (.tuple [.tuple [.int h.a,.int h.b],.tuple (h.ss.map Srv.d),.bool h.mv])),some (.imm (.tuple (natD l))),some (.imm (.tuple (natD (o0::os)))),none,none,none,none,none] [] 0) rfl ?_;walk_at"xs";refine aD (ay (j:=0) (aF rfl)) ?_;walk_at"xs";refine bu (fun i m=>∃a b c d,m=MSt.mk [some (.imm (.tuple [.tuple [.int h.a,.int h.b],.tuple (h.ss.map Srv.d),.bool h.mv])),some (.imm (.tuple (natD l))),some (.imm (.tuple (natD (o0::os)))),some (.imm (.int (M7.pick (bF h l) o0 ((o0::os).take i):Nat))),a,b,c,d] [] 0) ⟨none,none,none,none,rfl⟩ ?_ ?_
 .rintro i d m e n ⟨a,b,c,d',rfl⟩ D1 hD1 hR1;obtain⟨j,ej,rfl,hi⟩:=gmap e;have hj:=hO.lt j (List.mem_of_getElem? ej);have hb:M7.pick (bF h l) o0 ((o0::os).take i)<h.ss.length:=fB hO i;have et:(o0::os).take (i+1)=(o0::os).take i++[j]:=by rw[List.take_add_one,ej];rfl
  rw[et,M7.pick_app]at hD1;generalize M7.pick (bF h l) o0 ((o0::os).take i)=b at hb hD1⊢;obtain⟨s,es,ea,eb,hs⟩:=h.srv hj;obtain⟨s',es',ea',eb',hs'⟩:=h.srv hb;have so:=ho.ok s hs;have so':=ho.ok s' hs';have q1:=so.a2;have q2:=so.b2;have q3:=so'.a2;have q4:=so'.b2;have l1:=hL.le ho _ (List.mem_of_getElem? (getN hL.1 hj));have l2:=hL.le ho _ (List.mem_of_getElem? (getN hL.1 hb));have m1:(l.getD j 0+1)*s.b≤7*1000000:=Nat.mul_le_mul (by omega) (by omega);have m2:(l.getD b 0+1)*s'.b≤7*1000000:=Nat.mul_le_mul (by omega) (by omega);walk_at"xs";refine aD (d:=s.d) (ay (by rw[List.getElem?_map,es];rfl)) ?_;dsimp only[Srv.d];walk_at"xs";refine aD (d:=s'.d) (ay (by rw[List.getElem?_map,es'];rfl)) ?_;dsimp only[Srv.d];walk_at"xs";refine aD (ay (aF (getN hL.1 hj))) ?_;walk_at"xs";refine aD (ay (aF (getN hL.1 hb))) ?_;walk_at"xs";have eq:bF h l j b=decide ((l.getD j 0+1)*s.b*s'.a<(l.getD b 0+1)*s'.b*s.a):=by unfold bF;rw[ea,eb,ea',eb']
  have cast:(((l.getD j 0:Int)+1)*(s.b:Int)*(s'.a:Int)<((l.getD b 0:Int)+1)*(s'.b:Int)*(s.a:Int))↔((l.getD j 0+1)*s.b*s'.a<(l.getD b 0+1)*s'.b*s.a):=by
   rw[show((l.getD j 0:Int)+1)*(s.b:Int)*(s'.a:Int)=(((l.getD j 0+1)*s.b*s'.a:Nat):Int) by rw[Int.natCast_mul,Int.natCast_mul,Int.natCast_add];rfl,show((l.getD b 0:Int)+1)*(s'.b:Int)*(s.a:Int)=(((l.getD b 0+1)*s'.b*s.a:Nat):Int) by rw[Int.natCast_mul,Int.natCast_mul,Int.natCast_add];rfl];exact Int.ofNat_lt
  refine aA (fun q=>?_) (fun q=>?_)
  .walk_at"xs";rw[if_pos (show bF h l j b=true by rw[eq];exact decide_eq_true (cast.mp q))]at hD1;exact hD1 _ ⟨_,_,_,_,rfl⟩
  .walk_at"xs";rw[if_neg (show ¬bF h l j b=true by rw[eq,decide_eq_true_eq];exact fun z=>q (cast.mpr z))]at hD1;exact hD1 _ ⟨_,_,_,_,rfl⟩
 .rintro m n ⟨a,b,c,d,rfl⟩;rw[aq,List.take_length];walk_at"xs";exact k
theorem qc(T:Bl K mg)(D:DefM K mg "_law_sent" ix ["_law_hall_here","_law_rule_here","_law_stand","_law_order"])(G_law_all_lines:FnM P w K mg base "_law_all_lines" 1 1 yM)(G_law_soonest:FnM P w K mg base "_law_soonest" 1 3 oA):FnM P w K mg base "_law_sent" 2 4 jp:=by
 refine aQ D bU rfl (nN:=9) rfl (by decide) ?ar fun cdv A outer s H E f hr=>⟨_,(mz' (cC (mv' 2) (bo (n:=2) (af (ap 4 bU.nd) (af (ap 5 bU.nd) aY))))
   (mz' (aM (ak (ba hr.units) (ab (mv' 1) mh') aB (az _)) (aa (ah (ab (mv' 3) mh'))) am)
   (mz' (aM (ak (ba hr.units) (ab (mv' 1) mh') aB (az _)) (aa (ah (mv' 5))) am)
   (mz' (aM (ak (ba hr.units) (ab (mv' 1) mh') aB (az _)) (aa (ah (ab (ab (mv' 1) mh') (iX PySem.F.slot_list_index PySem.F.type_list_index (uc hr.units) (mf' G_law_all_lines (hr.mono (by decide)) (mc' (mv' 0) mn')) (mc' (mv' 4) mn'))))) am)
   (mz' (aM (ak (ba hr.units) (ab (mv' 1) mh') aB (az _)) (aa (ah (mf' G_law_soonest (hr.mono (by decide)) (mc' (mv' 0) (mc' (mv' 4) (mc' (mv' 3) mn')))))) am)
   (mz' (ag 6 bU.nd (mv' 3))
   (mz' (aM (ak (ba hr.units) (ab (mv' 1) mh') aB (az _)) (aa (ag 6 bU.nd (cu dY (mv' 3) cY (c6 mh')))) am)
   (mz' (ag 7 bU.nd (ab (mv' 6) mh'))
   (mz' (bf (bG (mv' 6)) (ap 8 bU.nd) (aa (aM (ak i7 (ab (mv' 4) (mv' 8)) (ab (mv' 4) (mv' 7)) (az _)) (aa (ag 7 bU.nd (mv' 8))) am)) PassesOwn.never)
   (aa (ah (mv' 7)))))))))))),?_⟩
 case ar=>rintro as Kc ⟨h,r,l,t,o,rfl,_⟩;rfl
 rintro as Kc hl ⟨h,r,l,t,o,rfl,ho,hr0,hL,hO,k⟩;have hll:=hL.1;have hO':Ord l.length o:=by rw[hll];exact hO
 cases r with
 |random =>
  refine ai (MSt.mk [some (.imm h.d),some (.imm (.tuple [.str "random"])),some (.imm (.tuple [lnD l,.int (t:Int)])),some (.imm (.tuple (natD o))),none,none,none,none,none] [] 0) rfl ?_;walk_at"xs"
  .rfl
  walk_at"xs";refine aA (fun _=>?_) (fun z=>(z rfl).elim);obtain⟨o0,os,rfl,h0⟩:=hO.cons;walk_at"xs";refine aD (ay (j:=0) (aF rfl)) ?_;walk_at"xs";exact k
 |turns =>
  refine ai (MSt.mk [some (.imm h.d),some (.imm (.tuple [.str "turns"])),some (.imm (.tuple [lnD l,.int (t:Int)])),some (.imm (.tuple (natD o))),none,none,none,none,none] [] 0) rfl ?_;walk_at"xs"
  .rfl
  walk_at"xs";refine aA (fun z=>absurd z (by decide +kernel)) (fun _=>?_);walk_at"xs";refine aA (fun _=>?_) (fun z=>(z rfl).elim);walk_at"xs";exact k
 | told ps =>
  refine ai (MSt.mk [some (.imm h.d),some (.imm (.tuple [.str "told",.tuple (natD ps)])),some (.imm (.tuple [lnD l,.int (t:Int)])),some (.imm (.tuple (natD o))),none,none,none,none,none] [] 0) rfl ?_;walk_at"xs"
  .rfl
  walk_at"xs";refine aA (fun z=>absurd z (by decide +kernel)) (fun _=>?_);walk_at"xs";refine aA (fun z=>absurd z (by decide +kernel)) (fun _=>?_);walk_at"xs";refine aA (fun _=>?_) (fun z=>(z rfl).elim);walk_at"xs";refine⟨h,rfl,ho,?_⟩;walk_at"xx";have hp:=M7.place_at hL.fits;refine BA (k':=1) (j:=M7.placeF 0 h.rs l) (y:=lnD l) rfl (wJ l) (fun y hy=>?_) (by decide) (by rw[List.getElem?_map,hp];rfl) (by rw[zJ];exact decide_eq_true rfl) (fun i y hi hy=>?_) ?_
  .obtain⟨l',_,rfl⟩:=List.mem_map.mp hy;exact wJ l'
  .obtain⟨l',el,rfl,_⟩:=gmap hy;rw[zJ];refine decide_eq_false fun z=>?_;subst z;have:=M7.place_only el;omega
  .walk_at"xn";have hlt:M7.placeF 0 h.rs l<ps.length:=by rw[hr0.1,M7.allR_cnt];exact M7.place_lt hL.fits
   refine aD (ay (aF (getN rfl hlt))) ?_;exact k
 |quick =>
  refine ai (MSt.mk [some (.imm h.d),some (.imm (.tuple [.str "quick"])),some (.imm (.tuple [lnD l,.int (t:Int)])),some (.imm (.tuple (natD o))),none,none,none,none,none] [] 0) rfl ?_;walk_at"xs"
  .rfl
  walk_at"xs";refine aA (fun z=>absurd z (by decide +kernel)) (fun _=>?_);walk_at"xs";refine aA (fun z=>absurd z (by decide +kernel)) (fun _=>?_);walk_at"xs";refine aA (fun z=>absurd z (by decide +kernel)) (fun _=>?_);walk_at"xs";refine aA (fun _=>?_) (fun z=>(z rfl).elim);walk_at"xs";refine⟨h,l,o,rfl,ho,hL,hO,?_⟩;walk_at"xn";exact k
 | least =>
  refine ai (MSt.mk [some (.imm h.d),some (.imm (.tuple [.str "least"])),some (.imm (.tuple [lnD l,.int (t:Int)])),some (.imm (.tuple (natD o))),none,none,none,none,none] [] 0) rfl ?_;walk_at"xs"
  .rfl
  walk_at"xs";refine aA (fun z=>absurd z (by decide +kernel)) (fun _=>?_);walk_at"xs";refine aA (fun z=>absurd z (by decide +kernel)) (fun _=>?_);walk_at"xs";refine aA (fun z=>absurd z (by decide +kernel)) (fun _=>?_);walk_at"xs";refine aA (fun z=>absurd z (by decide +kernel)) (fun _=>?_);walk_at"xs";refine aA (fun z=>absurd z (by decide +kernel)) (fun _=>?_);obtain⟨o0,os,rfl,h0⟩:=hO'.cons;have hT:=hO';walk_at"xs";dsimp only[lnD];refine aD (ay (j:=0) (aF rfl)) ?_;walk_at"xs";refine bu (fun i m=>∃a,m=MSt.mk [some (.imm h.d),some (.imm (.tuple [.str "least"])),some (.imm (.tuple [lnD l,.int (t:Int)])),some (.imm (.tuple (natD (o0::os)))),some (.imm (.tuple (natD l))),some (.imm (.int (t:Int))),some (.imm (.tuple (natD (o0::os)))),some (.imm (.int (M7.pick (bg l) o0 ((o0::os).take i):Nat))),a] [] 0) ⟨none,rfl⟩ ?_ ?_
  .rintro i d m e n ⟨a,rfl⟩ D1 hD1 hR1;obtain⟨j,ej,rfl,hi⟩:=gmap e;have hj:=hT.lt j (List.mem_of_getElem? ej);have hb:M7.pick (bg l) o0 ((o0::os).take i)<l.length:=fB hT i;have et:(o0::os).take (i+1)=(o0::os).take i++[j]:=by rw[List.take_add_one,ej];rfl
   rw[et,M7.pick_app]at hD1;generalize M7.pick (bg l) o0 ((o0::os).take i)=b at hb hD1⊢;walk_at"xs";refine aD (ay (aF (getN rfl hj))) ?_;walk_at"xs";refine aD (ay (aF (getN rfl hb))) ?_;walk_at"xs";refine aA (fun h=>?_) (fun h=>?_)
   .walk_at"xs";rw[if_pos (show bg l j b=true from decide_eq_true (by omega))]at hD1;exact hD1 _ ⟨_,rfl⟩
   .walk_at"xs";rw[if_neg (show ¬bg l j b=true by unfold bg;rw[decide_eq_true_eq];omega)]at hD1;exact hD1 _ ⟨_,rfl⟩
  .rintro m n ⟨a,rfl⟩;rw[aq,List.take_length];walk_at"xs";exact k
 | two =>
  refine ai (MSt.mk [some (.imm h.d),some (.imm (.tuple [.str "two"])),some (.imm (.tuple [lnD l,.int (t:Int)])),some (.imm (.tuple (natD o))),none,none,none,none,none] [] 0) rfl ?_;walk_at"xs"
  .rfl
  walk_at"xs";refine aA (fun z=>absurd z (by decide +kernel)) (fun _=>?_);walk_at"xs";refine aA (fun z=>absurd z (by decide +kernel)) (fun _=>?_);walk_at"xs";refine aA (fun z=>absurd z (by decide +kernel)) (fun _=>?_);walk_at"xs";refine aA (fun z=>absurd z (by decide +kernel)) (fun _=>?_);walk_at"xs";refine aA (fun _=>?_) (fun z=>(z rfl).elim);walk_at"xs";have e:cutD (natD o) none (some 2)=natD (o.take 2):=by
   rw[show(2:Int)=((2:Nat):Int)from rfl,j4];simp[natD]
  rw[e];obtain⟨o0,os,rfl,h0⟩:=hO.cons;have hT:Ord l.length (o0::os.take 1):=⟨by simp,fun k hk=>hO'.lt k (List.mem_of_mem_take (i:=2) hk),by rw[List.length_cons,List.length_take];omega⟩;replace k:Kc (.imm (.int (M7.pick (bg l) o0 (o0::os.take 1):Nat))) []:=k;walk_at"xn";generalize os.take 1=os' at *;refine aD (ay (j:=0) (aF rfl)) ?_;walk_at"xs";refine bu (fun i m=>∃a,m=MSt.mk [some (.imm h.d),some (.imm (.tuple [.str "two"])),some (.imm (.tuple [lnD l,.int (t:Int)])),some (.imm (.tuple (natD (o0::os)))),some (.imm (.tuple (natD l))),some (.imm (.int (t:Int))),some (.imm (.tuple (natD (o0::os')))),some (.imm (.int (M7.pick (bg l) o0 ((o0::os').take i):Nat))),a] [] 0) ⟨none,rfl⟩ ?_ ?_
  .rintro i d m e n ⟨a,rfl⟩ D1 hD1 hR1;obtain⟨j,ej,rfl,hi⟩:=gmap e;have hj:=hT.lt j (List.mem_of_getElem? ej);have hb:M7.pick (bg l) o0 ((o0::os').take i)<l.length:=fB hT i;have et:(o0::os').take (i+1)=(o0::os').take i++[j]:=by rw[List.take_add_one,ej];rfl
   rw[et,M7.pick_app]at hD1;generalize M7.pick (bg l) o0 ((o0::os').take i)=b at hb hD1⊢;walk_at"xs";refine aD (ay (aF (getN rfl hj))) ?_;walk_at"xs";refine aD (ay (aF (getN rfl hb))) ?_;walk_at"xs";refine aA (fun h=>?_) (fun h=>?_)
   .walk_at"xs";rw[if_pos (show bg l j b=true from decide_eq_true (by omega))]at hD1;exact hD1 _ ⟨_,rfl⟩
   .walk_at"xs";rw[if_neg (show ¬bg l j b=true by unfold bg;rw[decide_eq_true_eq];omega)]at hD1;exact hD1 _ ⟨_,rfl⟩
  .rintro m n ⟨a,rfl⟩;rw[aq,List.take_length];walk_at"xs";exact k
theorem qg(T:Bl K mg)(D:DefM K mg "_law_more" iL ["_law_lines","_law_k","_law_many"]):FnM P w K mg base "_law_more" 1 3 i5:=by
 refine aQ D qk rfl (nN:=3) rfl (by decide) ?ar fun cdv A outer s H E f hr=>⟨_,(aa (ah (ac aI (ac aI (cu dY (mv' 0) cY (c6 (mv' 1))) (ae (mc' (ac aI (ab (mv' 0) (mv' 1)) (mv' 2)) mn'))) (cu dY (mv' 0) (c6 (ac aI (mv' 1) mh')) cY)))),?_⟩
 case ar=>rintro as Kc ⟨l,j,d,x,rfl,_⟩;rfl
 rintro as Kc hl ⟨l,j,d,x,rfl,hj,hl4,hx,k⟩;refine ai (MSt.mk [some (.imm (.tuple (natD l))),some (.imm (.int (j:Int))),some (.imm (.int d))] [] 0) rfl ?_;walk_at"xs";refine aD (ay (aF (getN rfl hj))) ?_;walk_at"xs";rw[hx,j4];refine jx (by rw[sizeLine_eq,List.length_take,aq];simp;omega) ?_;walk_at"xs";rw[show(j:Int)+1=((j+1:Nat):Int)from rfl,jT];refine jx (by rw[sizeLine_eq,List.length_append,List.length_take,List.length_drop,aq];simp;omega) ?_;walk_at"xs";have e:(natD l).take j++[.int (x:Int)]++(natD l).drop (j+1)=natD (l.set j x):=by
  rw[<-qB,List.set_eq_take_append_cons_drop,if_pos (by rw[aq];exact hj)];simp
 rw[e];exact k
theorem lr(T:Bl K mg)(D:DefM K mg "_law_evened" fo ["_law_hall_here","_law_lines"])(G_law_more:FnM P w K mg base "_law_more" 1 3 i5):FnM P w K mg base "_law_evened" 2 2 lh:=by
 refine aQ D e9 rfl (nN:=2) rfl (by decide) ?ar fun cdv A outer s H E f hr=>⟨_,(mz' (ia (EW.pt (fz (oX (ab (mv' 0) mh')) (fz (ak (ba hr.units) (al (sG rfl) (by rfl) T.min GZ (mc' (mv' 1) mn')) mh' (az _)) (h7 (ak ic (al (fU rfl) (by rfl) T.max rq (mc' (mv' 1) mn')) mh' (az _)))))) (mz' (ag 1 e9.nd (mf' G_law_more (hr.mono (by decide)) (mc' (mv' 1) (mc' (qw PySem.F.slot_tuple_index PySem.F.type_tuple_index (fX hr.units) (mv' 1) (mc' (al (fU rfl) (by rfl) T.max rq (mc' (mv' 1) mn')) mn')) (mc' (jF gm mh') mn')))))
   (aa (ag 1 e9.nd (mf' G_law_more (hr.mono (by decide)) (mc' (mv' 1) (mc' (qw PySem.F.slot_tuple_index PySem.F.type_tuple_index (fX hr.units) (mv' 1) (mc' mh' mn')) (mc' mh' mn'))))))) PassesOwn.never)
   (aa (ah (mv' 1)))),?_⟩
 case ar=>rintro as Kc ⟨h,l,rfl,_⟩;rfl
 rintro as Kc hl ⟨h,l,rfl,hne,hl4,k⟩;refine ai (MSt.mk [some (.imm (.tuple [.tuple [.int h.a,.int h.b],.tuple (h.ss.map Srv.d),.bool h.mv])),some (.imm (.tuple (natD l)))] [] 0) rfl ?_;refine fh ?_;refine lu (fun n m=>∃l':List Nat,m=MSt.mk [some (.imm (.tuple [.tuple [.int h.a,.int h.b],.tuple (h.ss.map Srv.d),.bool h.mv])),some (.imm (.tuple (natD l')))] [] 0/\n=l'.count 0/\cw h n l'=cy h l/\l'≠[]/\l'.length≤1000) (l.count 0) ⟨l,rfl,rfl,rfl,hne,hl4⟩ ?_;rintro n m hn ⟨l',rfl,rfl,hs,hne',hl'⟩;have hints:cR (natD l')=some (l'.map fun(x:Nat)=>(x:Int)):=by
  have:=cz (l'.map fun(x:Nat)=>(x:Int));rwa[List.map_map]at this
 have hnei:(l'.map fun(x:Nat)=>(x:Int))≠[]:=fun z=>hne' (List.map_eq_nil_iff.mp z);have hmax:∀x:Int,x∈(l'.map fun(x:Nat)=>(x:Int))->(∀y∈(l'.map fun(x:Nat)=>(x:Int)),y≤x)->x=(maxN l':Int):=fun x hx hy=>by
  obtain⟨n,hn,rfl⟩:=List.mem_map.mp hx;have h1:=pc n hn;have h2:=hy (maxN l':Int) (List.mem_map.mpr ⟨maxN l',gF hne',rfl⟩);omega
 have hmin:∀x:Int,x∈(l'.map fun(x:Nat)=>(x:Int))->(∀y∈(l'.map fun(x:Nat)=>(x:Int)),x≤y)->(x=0↔0∈l'):=fun x hx hy=>by
  obtain⟨n,hn,rfl⟩:=List.mem_map.mp hx;constructor
  .intro z;have:n=0:=by omega
   rw[<-this];exact hn
  .intro z;have:=hy ((0:Nat):Int) (List.mem_map.mpr ⟨0,z,rfl⟩);omega
 have done:cK h l'=none->Kc (.imm (lnD l')) []:=fun e=>by
  rw[iY e]at hs;rw[<-hs]at k;exact k
 walk_at"xs"
 cases hmv:h.mv with
 |false =>
  walk_at"xs";exact done (if_neg (by rw[hmv];exact fun z=>by cases z.1))
 | true =>
  walk_at"xs";refine Fu rfl hints hnei fun x hx hy=>?_;have hmn:=hmin x hx hy;walk_at"xs";refine aA (fun z=>?_) (fun z=>?_)
  .have h0:0∈l':=hmn.mp z;walk_at"xs";refine qx rfl hints hnei fun x hx hy=>?_;rw[hmax x hx hy];walk_at"xs";refine aA (fun z=>?_) (fun z=>?_)
   .have e:cK h l'=some (idx l' (maxN l'),idx l' 0):=if_pos ⟨hmv,h0,by omega⟩;obtain⟨es,l1,l2,hc,hlen⟩:=fG e;obtain⟨m0,m1,m2,m3,m4⟩:=dQ e;dsimp only at es l1 l2 m1 m3 m4;have s1:=fM (gF hne');have s0:=fM h0;have g1:l'.getD (idx l' (maxN l')) 0=maxN l':=bM m1;have n0:(l'.set (idx l' (maxN l')) (maxN l'-1))[idx l' 0]?=some 0:=by rw[List.getElem?_set_ne m4];exact m3
    have g2:(l'.set (idx l' (maxN l')) (maxN l'-1)).getD (idx l' 0) 0=0:=bM n0;have n1:∀(i y:Nat),i<idx l' 0->(l'.set (idx l' (maxN l')) (maxN l'-1))[i]?=some y->y≠0:=fun i y hi hy=>by
     by_cases hq:idx l' (maxN l')=i
     .rw[<-hq,List.getElem?_set_self l1]at hy;have:=Option.some.inj hy;omega
     .rw[List.getElem?_set_ne hq]at hy;exact s0.2 i y hi hy
    walk_at"xs";refine qx rfl hints hnei fun x hx hy=>?_;rw[hmax x hx hy];walk_at"xs";refine jl (j:=idx l' (maxN l')) (k':=0) (d7 _) (d6 l') (by decide) (aF s1.1) (by rw[cb];exact decide_eq_true rfl) (fun i y hi hy=>?_) ?_
    .obtain⟨z,ez,rfl,_⟩:=gmap hy;rw[cb];exact decide_eq_false (s1.2 i z hi ez)
    walk_at"xs";refine⟨l',idx l' (maxN l'),-1,maxN l'-1,rfl,l1,hl',by omega,?_⟩;generalize hl2:l'.set (idx l' (maxN l')) (maxN l'-1)=l2' at *;walk_at"xn";dsimp only[lnD];walk_at"xs";refine jl (j:=idx l' 0) (k':=0) (d7 _) (d6 l2') (by decide) (aF n0) (cb 0 0) (fun i y hi hy=>?_) ?_
    .obtain⟨z',ez,rfl,_⟩:=gmap hy;have:=cb z' 0;rw[show((0:Nat):Int)=0 from rfl]at this;rw[this];exact decide_eq_false (n1 i z' hi ez)
    walk_at"xs";have hl3:l2'.length=l'.length:=by rw[<-hl2,List.length_set]
    refine⟨l2',idx l' 0,1,1,rfl,by omega,by omega,by omega,?_⟩;rw[<-es];walk_at"xx";have hne2:ca l' (idx l' (maxN l'),idx l' 0)≠[]:=fun z=>by
     rw[z]at hlen;exact hne' (List.eq_nil_of_length_eq_zero hlen.symm)
    refine⟨(ca l' (idx l' (maxN l'),idx l' 0)).count 0,by omega,ca l' (idx l' (maxN l'),idx l' 0),rfl,rfl,?_,hne2,by omega⟩;rw[<-hs,<-hc];show _=cw h ((ca l' (idx l' (maxN l'),idx l' 0)).count 0+1) l';simp only[cw,e]
   .walk_at"xs";exact done (if_neg fun q=>by have:=q.2.2;omega)
  .walk_at"xs";exact done (if_neg fun q=>z (hmn.mpr q.2.1))
theorem m8(T:Bl K mg)(D:DefM K mg "_law_asked" gq ["_law_hall_here","_law_rule_here","_law_stand","_law_order"])(G_law_sent:FnM P w K mg base "_law_sent" 2 4 jp)(G_law_evened:FnM P w K mg base "_law_evened" 2 2 lh)(G_law_more:FnM P w K mg base "_law_more" 1 3 i5):FnM P w K mg base "_law_asked" 3 4 rJ:=by
 refine aQ D cP rfl (nN:=7) rfl (by decide) ?ar fun cdv A outer s H E f hr=>⟨_,(mz' (cC (mv' 2) (bo (n:=2) (af (ap 4 cP.nd) (af (ap 5 cP.nd) aY))))
   (mz' (ag 6 cP.nd (mf' G_law_sent (hr.mono (by decide)) (mc' (mv' 0) (mc' (mv' 1) (mc' (mv' 2) (mc' (mv' 3) mn'))))))
   (mz' (aM (ak (ba hr.units) (ab (mv' 1) mh') aB (az _)) (aa (ag 5 cP.nd (ac cV (ac aI (mv' 5) mh') (al aK (by rfl) T.len bX (mc' (mv' 4) mn'))))) am)
   (mz' (aM (ak (ba hr.units) (ab (mv' 4) (mv' 6)) (ab (ab (ab (mv' 0) mh') (mv' 6)) mh') (az _)) (aa (ah (ae (mc' (ae (mc' (mf' G_law_evened (hr.mono (by decide)) (mc' (mv' 0) (mc' (mv' 4) mn'))) (mc' (mv' 5) mn'))) (mc' aB mn'))))) am)
   (aa (ah (ae (mc' (ae (mc' (mf' G_law_evened (hr.mono (by decide)) (mc' (mv' 0) (mc' (mf' G_law_more (hr.mono (by decide)) (mc' (mv' 4) (mc' (mv' 6) (mc' mh' mn')))) mn'))) (mc' (mv' 5) mn'))) (mc' aB mn'))))))))),?_⟩
 case ar=>rintro as Kc ⟨h,r,l,t,o,rfl,_⟩;rfl
 rintro as Kc hl ⟨h,r,l,t,o,rfl,ho,hr0,hS,hO,k⟩;have hL:=hS.ln;have hll:=hL.1;have n1:=ho.n1;have n4:=ho.n4;have ne:∀l':List Nat,l'.length=l.length->l'≠[]:=fun l' e z=>by rw[z]at e;simp at e;omega
 refine ai (MSt.mk [some (.imm (.tuple [.tuple [.int h.a,.int h.b],.tuple (h.ss.map Srv.d),.bool h.mv])),some (.imm r.d),some (.imm (.tuple [lnD l,.int (t:Int)])),some (.imm (lnD o)),none,none,none] [] 0) rfl ?_;walk_at"xs"
 .rfl
 walk_at"xs";refine⟨h,r,l,t,o,rfl,ho,hr0,hL,hO,?_⟩;have hk:=me ho hr0 hL hO hS.tn;have ht:∀(r:Rule),oa h r t=if r.word = "turns" then(t+1)%h.ss.length else t:=by
  intro r
  cases r with
  |turns=>exact(if_pos rfl).symm
  |told ps=>exact(if_neg (show ¬("told" : Str) = "turns" by decide +kernel)).symm
  |_=>exact(if_neg (by decide +kernel)).symm
 rw[show mvD (bO h r l t (.come o)) = .tuple [.tuple [lnD (cy h (cj h l (sent h r l t o)).1),.int (oa h r t:Nat)],.str (cj h l (sent h r l t o)).2.s]from rfl]at k;generalize sent h r l t o=j at *;obtain⟨s,es,ea,eb,hs⟩:=h.srv hk;have er:h.rn j=s.r:=bM (Hall.rs_get es);walk_at"xn";refine bJ ?_;walk_at"xn";refine fh ?_;refine x_JS (fun m=>m=MSt.mk [some (.imm (.tuple [.tuple [.int h.a,.int h.b],.tuple (h.ss.map Srv.d),.bool h.mv])),some (.imm r.d),some (.imm (.tuple [lnD l,.int (t:Int)])),some (.imm (lnD o)),some (.imm (lnD l)),some (.imm (.int (oa h r t:Nat))),some (.imm (.int (j:Int)))] [] 0) (fun N J=>?_) ?_
 .rw[ht r]at J;have wd:∃ds,r.d = .tuple (.str r.word::ds):=by cases r<;>exact⟨_,rfl⟩
  obtain⟨ds,ed⟩:=wd;rw[ed]at J⊢;walk_at"xs";refine aD (ay (j:=0) (xs:=.str r.word::ds) rfl) ?_;walk_at"xs";refine aA (fun z=>?_) (fun z=>?_)
  .rw[if_pos z]at J;dsimp only[lnD]at J⊢;walk_at"xs";rw[aq,hll];refine AM (by omega) ?_;refine bJ ?_;exact J _ rfl
  .rw[if_neg z]at J;walk_at"xs";exact J _ rfl
 rintro _ rfl;dsimp only[lnD];walk_at"xs";refine aD (ay (aF (getN hll hk))) ?_;walk_at"xs";refine aD (d:=s.d) (ay (by rw[List.getElem?_map,es];rfl)) ?_;dsimp only[Srv.d];walk_at"xs";refine aA (fun z=>?_) (fun z=>?_)
 .have e:cj h l j=(l,.away):=if_pos (by rw[er];omega);rw[e]at k;walk_at"xs";refine⟨h,l,rfl,ne l rfl,by omega,?_⟩;walk_at"xx";exact k
 .have e:cj h l j=(l.set j (l.getD j 0+1),.taken):=if_neg (by rw[er];omega);rw[e]at k;walk_at"xs";refine⟨l,j,1,l.getD j 0+1,rfl,by omega,by omega,rfl,?_⟩;walk_at"xx";refine⟨h,_,rfl,ne _ (by simp),by simp;omega,?_⟩;walk_at"xx";exact k
theorem lY(T:Bl K mg)(D:DefM K mg "_law_behind" fy ["_law_hall_here","_law_rule_here","_law_stand"])(G_law_orders:FnM P w K mg base "_law_orders" 1 1 Ab)(G_law_asked:FnM P w K mg base "_law_asked" 3 4 rJ)(G_law_cut:FnM P w K mg base "_law_cut" 1 2 nu)(G_law_plus:FnM P w K mg base "_law_plus" 2 2 uV)(G_law_more:FnM P w K mg base "_law_more" 1 3 i5)(G_law_evened:FnM P w K mg base "_law_evened" 2 2 lh):FnM P w K mg base "_law_behind" 4 3 zH:=by
 refine aQ D aH rfl (nN:=14) rfl (by decide) ?ar fun cdv A outer s H E f hr=>⟨_,(mz' (cC (mv' 2) (bo (n:=2) (af (ap 3 aH.nd) (af (ap 4 aH.nd) aY))))
   (mz' (ag 5 aH.nd (mf' G_law_orders (hr.mono (by decide)) (mc' (al aK (by rfl) T.len bX (mc' (mv' 3) mn')) mn')))
   (mz' (ag 6 aH.nd (bR mn'))
   (mz' (bf (bG (mv' 5)) (ap 7 aH.nd) (mz' (cC (mf' G_law_asked (hr.mono (by decide)) (mc' (mv' 0) (mc' (mv' 1) (mc' (mv' 2) (mc' (mv' 7) mn'))))) (bo (n:=2) (af (ap 8 aH.nd) (af (ap 9 aH.nd) aY))))
   (aa (d4 (iX PySem.F.slot_list_append PySem.F.type_list_append dM (mv' 6) (mc' (ae (mc' (mv' 8) (mc' (mv' 9) (mc' (mf' G_law_cut (hr.mono (by decide)) (mc' (ab (ab (mv' 0) mh') mh') (mc' (ac av (ab (ab (mv' 0) mh') mh') (al aK (by rfl) T.len bX (mc' (mv' 5) mn'))) mn'))) mn')))) mn'))))) PassesOwn.never)
   (mz' (ag 10 aH.nd (ae (mc' (ac pf (ab (ab (mv' 0) mh') mh') (ab (ab (mv' 0) mh') mh')) (mc' (ab (ab (mv' 0) mh') mh') mn'))))
   (mz' (bf (bz (by rfl) T.range (mc' (al aK (by rfl) T.len bX (mc' (mv' 3) mn')) mn')) (ap 11 aH.nd) (mz' (ag 12 aH.nd (ab (ab (ab (mv' 0) mh') (mv' 11)) mh'))
   (mz' (ag 10 aH.nd (mf' G_law_plus (hr.mono (by decide)) (mc' (mv' 10) (mc' (ae (mc' (jF gm (ab (mv' 12) mh')) (mc' (ab (mv' 12) mh') mn'))) mn'))))
   (mz' (ag 9 aH.nd (ab (bR (mc' aB (mc' aB mn'))) (da ki (by rfl) T.int wm (mc' (iI ic (ab (mv' 3) (mv' 11)) mh' (az _)) mn'))))
   (mz' (ag 13 aH.nd (mf' G_law_more (hr.mono (by decide)) (mc' (mv' 3) (mc' (mv' 11) (mc' (jF gm (da ki (by rfl) T.int wm (mc' (iI ic (ab (mv' 3) (mv' 11)) mh' (az _)) mn'))) mn')))))
   (aa (d4 (iX PySem.F.slot_list_append PySem.F.type_list_append dM (mv' 6) (mc' (ae (mc' (ae (mc' (mf' G_law_evened (hr.mono (by decide)) (mc' (mv' 0) (mc' (mv' 13) mn'))) (mc' (mv' 4) mn'))) (mc' (mv' 9) (mc' (mv' 12) mn')))) mn')))))))) PassesOwn.never)
   (mz' (aM (ak ic (ab (mv' 10) mh') mh' (az _)) (aa (d4 (iX PySem.F.slot_list_append PySem.F.type_list_append dM (mv' 6) (mc' (ae (mc' (ae (mc' (mf' G_law_evened (hr.mono (by decide)) (mc' (mv' 0) (mc' (mv' 3) mn'))) (mc' (mv' 4) mn'))) (mc' aB (mc' (mv' 10) mn')))) mn')))) am)
   (aa (ah (mv' 6)))))))))),?_⟩
 case ar=>rintro as Kc ⟨h,r,l,t,rfl,_⟩;rfl
 rintro as Kc hl ⟨h,r,l,t,rfl,ho,hr0,hS,k⟩;have hL:=hS.ln;have hll:=hL.1;have n1:=ho.n1;have n4:=ho.n4;have b1:=ho.b1;have b2:=ho.b2;have a2:=ho.a2;have nO:=(ci h.ss.length ho.n4 h.ss.length ho.n4).1;have pO:=cI h.ss.length ho.n4;have ne:∀l':List Nat,l'.length=l.length->l'≠[]:=fun l' e z=>by rw[z]at e;simp at e;omega
 refine ai (MSt.mk [some (.imm (.tuple [.tuple [.int h.a,.int h.b],.tuple (h.ss.map Srv.d),.bool h.mv])),some (.imm r.d),some (.imm (.tuple [.tuple (natD l),.int (t:Int)])),none,none,none,none,none,none,none,none,none,none,none] [] 0) rfl ?_;walk_at"xs"
 .rfl
 walk_at"xs";rw[aq,hll];refine⟨h.ss.length,rfl,n4,?_⟩;walk_at"xn";refine cE ?_;walk_at"xx";refine cE ?_;walk_at"xx";have nC:(cmM h).length≤24:=by unfold cmM;rw[List.length_map];exact nO
 have nD:(dnM h).length=h.ss.length:=by unfold dnM;rw[List.length_map,List.length_zipIdx]
 refine iE (fun i m=>∃a b c,m=MSt.mk [some (.imm (.tuple [.tuple [.int h.a,.int h.b],.tuple (h.ss.map Srv.d),.bool h.mv])),some (.imm r.d),some (.imm (.tuple [.tuple (natD l),.int (t:Int)])),some (.imm (.tuple (natD l))),some (.imm (.int (t:Int))),some (.obj 0),some (.obj 1),a,b,c,none,none,none,none] [(ordK h.ss.length h.ss.length).map lnD,((cmM h).take i).map (behD h r l t)] 1) ⟨none,none,none,rfl⟩ ?_ ?_ ?_
 .rintro i m ⟨a,b,c,rfl⟩;rfl
 .rintro i d m e hnp ⟨a,b,c,rfl⟩;obtain⟨o,eo,rfl,hi⟩:=gmap e;obtain⟨q1,q2,q3⟩:=rm h.ss.length n4 n1 o (List.mem_of_getElem? eo);walk_at"xs";refine⟨h,r,l,t,o,rfl,ho,hr0,hS,⟨q1,q3,q2⟩,?_⟩;walk_at"xn";have ec:(cmM h)[i]?=some (Mv.come o,(bi h).1,(bi h).2.toNat):=by unfold cmM;rw[List.getElem?_map,eo];rfl
  rw[List.take_add_one,ec,List.map_append];have em:mvD (bO h r l t (.come o)) = .tuple [ptD ((bO h r l t (.come o)).1,(bO h r l t (.come o)).2.1),wdD (bO h r l t (.come o)).2.2]:=rfl;rw[em];walk_at"xs"
  .rfl
  walk_at"xs";rw[List.length_map];refine⟨(h.a:Int),h.b*(ordK h.ss.length h.ss.length).length,by rw[Int.natCast_mul],Nat.mul_pos (by omega) pO,?_,?_,?_⟩
  .exact Nat.lt_of_le_of_lt (show((h.a:Int)).natAbs≤1000000 by omega) (by decide)
  .exact Nat.lt_of_le_of_lt (Nat.mul_le_mul (show h.b≤1000000 by omega) nO) (by decide)
  rw[Jl ho];walk_at"xx";refine' jm (ds:=((cmM h).take i).map (behD h r l t)) ?eb (by rw[sizeLine_eq,List.length_map,List.length_take];omega) ?_
  case eb=>rfl
  exact⟨_,_,_,rfl⟩
 rintro m hnp ⟨a,b,c,rfl⟩;have eL:((ordK h.ss.length h.ss.length).map lnD).length=(cmM h).length:=by unfold cmM;rw[List.length_map,List.length_map]
 rw[eL,List.take_length];walk_at"xs";rw[aq];refine⟨by omega,by omega,?_⟩;rw[Int.toNat_natCast];refine bu (fun i m=>∃(a b c d e f:Option L2.R) (x:Int×Int),m=MSt.mk [some (.imm (.tuple [.tuple [.int h.a,.int h.b],.tuple (h.ss.map Srv.d),.bool h.mv])),some (.imm r.d),some (.imm (.tuple [.tuple (natD l),.int (t:Int)])),some (.imm (.tuple (natD l))),some (.imm (.int (t:Int))),some (.obj 0),some (.obj 1),a,b,c,some (.imm (frT x.1 x.2)),d,e,f] [(ordK h.ss.length h.ss.length).map lnD,(cmM h).map (behD h r l t)++((dnM h).take i).map (behD h r l t)] 0/\RL h i x) ⟨a,b,c,none,none,none,_,by rw[List.take_zero,List.map_nil,List.append_nil];rfl,RL.zero ho⟩ ?_ ?_
 .rintro i d m e hnp ⟨a,b,c,d1,d2,d3,x,rfl,X⟩ D1 hD1 hR1;obtain⟨hi,rfl⟩:=bQ e;rw[show(0:Int)+(i:Int)=((i:Nat):Int) by omega];obtain⟨s,es,ea,eb,hs⟩:=h.srv (show i<h.ss.length by omega);have so:=ho.ok s hs;have sa:=so.a2;have sb:=so.b2;have sb1:=so.b1;have X2:=X.succ ho es;have eg:=BW es;rw[List.take_add_one,eg,List.map_append,<-List.append_assoc]at hD1;have sz:((cmM h).map (behD h r l t)++((dnM h).take i).map (behD h r l t)).length<100:=by rw[List.length_append,List.length_map,List.length_map,List.length_take];omega
  walk_at"xs";refine aD (d:=s.d) (ay (by rw[List.getElem?_map,es];rfl)) ?_;dsimp only[Srv.d];walk_at"xs";refine⟨x.1,x.2,-(s.a:Int),(s.b:Int),rfl,X.f,⟨?_,?_,by omega⟩,?_⟩
  .exact Nat.lt_of_le_of_lt (show(-(s.a:Int)).natAbs≤1000000 by omega) (by decide)
  .exact Nat.lt_of_le_of_lt (show((s.b:Int)).natAbs≤1000000 by omega) (by decide)
  unfold addF;rw[dL];walk_at"xn";refine bJ ?_;walk_at"xx";refine aD (ay (aF (getN hll (show i<h.ss.length by omega)))) ?_;walk_at"xs"
  by_cases hz:l.getD i 0=0
  .have ed:b7 l i=(l,.none):=if_pos hz;have el:l.set i (l.getD i 0)=l:=List.ext_getElem? fun j=>by
    by_cases hj:i=j
    .subst hj;rw[List.getElem?_set_self (by omega),getN hll (show i<h.ss.length by omega)]
    .rw[List.getElem?_set_ne hj]
   rw[hz];walk_at"xs";refine aD (ay (aF (getN hll (show i<h.ss.length by omega)))) ?_;rw[hz];walk_at"xs";refine⟨l,i,0,l.getD i 0,rfl,by omega,by omega,by omega,?_⟩;rw[el];walk_at"xx";refine⟨h,l,rfl,ne l rfl,by omega,?_⟩;walk_at"xx";refine' jm (ds:=(cmM h).map (behD h r l t)++((dnM h).take i).map (behD h r l t)) ?eb (by rw[sizeLine_eq];omega) ?_
   case eb=>rfl
   have em:behD h r l t (Mv.done i,(s.a:Int),s.b) = .tuple [.tuple [lnD (cy h l),.int (t:Int)],.str "none",.tuple [.int (s.a:Int),.int (s.b:Int)]]:=by
    show PyData.tuple [ptD (cy h (b7 l i).1,t),wdD (b7 l i).2,.tuple [.int (s.a:Int),.int (s.b:Int)]]=_;rw[ed];rfl
   rw[show(some (Mv.done i,(s.a:Int),s.b)).toList.map (behD h r l t)=[behD h r l t (Mv.done i,(s.a:Int),s.b)]from rfl,em]at hD1;exact hD1 _ ⟨a,b,_,_,_,_,_,rfl,X2⟩
  .have ed:b7 l i=(l.set i (l.getD i 0-1),.served):=if_neg hz;walk_at"xs";rw[show(if decide ((l.getD i 0:Int)>0)=true then(1:Int)else 0)=1 from if_pos (decide_eq_true (by omega))];refine iC (d:=.str "served") rfl ?_;walk_at"xs";refine aD (ay (aF (getN hll (show i<h.ss.length by omega)))) ?_;walk_at"xs";rw[show(if decide ((l.getD i 0:Int)>0)=true then(1:Int)else 0)=1 from if_pos (decide_eq_true (by omega))];refine⟨l,i,-1,l.getD i 0-1,rfl,by omega,by omega,by omega,?_⟩;walk_at"xx";refine⟨h,_,rfl,ne _ (by simp),by simp;omega,?_⟩;walk_at"xx";refine' jm (ds:=(cmM h).map (behD h r l t)++((dnM h).take i).map (behD h r l t)) ?eb (by rw[sizeLine_eq];omega) ?_
   case eb=>rfl
   have em:behD h r l t (Mv.done i,(s.a:Int),s.b) = .tuple [.tuple [lnD (cy h (l.set i (l.getD i 0-1))),.int (t:Int)],.str "served",.tuple [.int (s.a:Int),.int (s.b:Int)]]:=by
    show PyData.tuple [ptD (cy h (b7 l i).1,t),wdD (b7 l i).2,.tuple [.int (s.a:Int),.int (s.b:Int)]]=_;rw[ed];rfl
   rw[show(some (Mv.done i,(s.a:Int),s.b)).toList.map (behD h r l t)=[behD h r l t (Mv.done i,(s.a:Int),s.b)]from rfl,em]at hD1;exact hD1 _ ⟨a,b,_,_,_,_,_,rfl,X2⟩
 rintro m hnp ⟨a,b,c,d1,d2,d3,x,rfl,X⟩;rw[aE,hll,<-nD,List.take_length];rw[aE,hll]at X;have ex:=X.g (by omega);subst ex;have ek:(shrM h).map (behD h r l t)=(cmM h).map (behD h r l t)++(dnM h).map (behD h r l t)++if 0<(restF h h.ss.length).1 then [behD h r l t (Mv.still,(restF h h.ss.length).1,(restF h h.ss.length).2.toNat)]else []:=by
  unfold shrM cmM dnM;rw[List.map_append,List.map_append]
  congr 1
  split<;>rfl
 rw[ek]at k;unfold frT;walk_at"xs";refine aA (fun z=>?_) (fun z=>?_)
 .rw[if_pos z]at k;walk_at"xs";refine⟨h,l,rfl,ne l rfl,by omega,?_⟩;walk_at"xx";refine' jm (ds:=(cmM h).map (behD h r l t)++(dnM h).map (behD h r l t)) ?eb (by rw[sizeLine_eq,List.length_append,List.length_map,List.length_map];omega) ?_
  case eb=>rfl
  walk_at"xx";have er:behD h r l t (Mv.still,(restF h h.ss.length).1,(restF h h.ss.length).2.toNat) = .tuple [.tuple [lnD (cy h l),.int (t:Int)],.str "none",.tuple [.int (restF h h.ss.length).1,.int (restF h h.ss.length).2]]:=by
   have:=(df ho h.ss.length (Nat.le_refl _)).1;show PyData.tuple [ptD (cy h l,t),.str "none",.tuple [.int (restF h h.ss.length).1,.int (((restF h h.ss.length).2.toNat:Nat):Int)]]=_;rw[show(((restF h h.ss.length).2.toNat:Nat):Int)=(restF h h.ss.length).2 by omega];rfl
  rw[er]at k;exact k
 .rw[if_neg z,List.append_nil]at k;walk_at"xs";exact k
theorem ow(T:Bl K mg)(D:DefM K mg "_law_first" d9 ["_law_hall_here"]):FnM P w K mg base "_law_first" 1 1 rQ:=by
 refine aQ D n9 rfl (nN:=1) rfl (by decide) ?ar fun cdv A outer s H E f hr=>⟨_,(aa (ah (ae (mc' (da gi (by rfl) T.tuple mh (mc' (cp (own:=["_law_server"]) (fr:=[]) (ps:=[]) (sc:=(ad d9)) (by exact⟨rfl,by decide +kernel,by decide +kernel,by decide +kernel,by decide +kernel⟩) (bG (ab (mv' 0) mh')) (fun _ _ _ _ _=>(ap 0 (show List.Nodup ((["_law_server"]:List Str)++([]:List Str))from by decide +kernel))) (fun _ _ _ _ _=>cJ) (fun _ _ _ _ _=>mh')) mn')) (mc' mh' mn'))))),?_⟩
 case ar=>rintro as Kc ⟨h,rfl,_⟩;rfl
 rintro as Kc hl ⟨h,rfl,ho,k⟩;have n4:=ho.n4;refine ai (MSt.mk [some (.imm (.tuple [.tuple [.int h.a,.int h.b],.tuple (h.ss.map Srv.d),.bool h.mv]))] [] 0) rfl ?_;walk_at"xs";refine dI (fun i m=>∃a,m=MSt.mk [a] [natD (List.replicate i 0)] 1) ⟨none,rfl⟩ ?_ ?_
 .rintro i d m e hnp ⟨a,rfl⟩;have hi:i<h.ss.length:=by
   have:=(List.getElem?_eq_some_iff.mp e).1;simpa using this
  walk_at"xs";refine⟨_,rfl,by unfold natD;rw[List.length_map,List.length_replicate,sizeLine_eq];omega,some (.imm d),?_⟩;rw[List.replicate_succ'];unfold natD;rw[List.map_append];rfl
 .rintro m hnp ⟨a,rfl⟩;rw[List.length_map];walk_at"xx";exact k
theorem sX(T:Bl K mg)(D:DefM K mg "_law_due" jE ["_law_hall_here","_law_rule_here","_law_turns"])(G_law_first:FnM P w K mg base "_law_first" 1 1 rQ)(G_law_behind:FnM P w K mg base "_law_behind" 4 3 zH)(G_law_times:FnM P w K mg base "_law_times" 2 2 yx)(G_law_plus:FnM P w K mg base "_law_plus" 2 2 uV):FnM P w K mg base "_law_due" 6 3 zK:=by
 refine aQ D aU rfl (nN:=14) rfl (by decide) ?ar fun cdv A outer s H E f hr=>⟨_,(mz' (ag 3 aU.nd (nR hr.units (mf' G_law_first (hr.mono (by decide)) (mc' (mv' 0) mn')) (ae (mc' mh' (mc' mh' mn')))))
   (mz' (ag 4 aU.nd (ae (mc' mh' (mc' mh' mn'))))
   (mz' (ag 5 aU.nd (ae (mc' mh' (mc' mh' mn'))))
   (mz' (bf (bz (by rfl) T.range (mc' (mv' 2) mn')) (ap 6 aU.nd) (mz' (u3 (ag 7 aU.nd (mv' 3)))
   (mz' (ag 3 aU.nd jq)
   (aa (bf (rh (mv' 7)) (ap 8 aU.nd) (aa (bf (bG (dG (mf' G_law_behind (hr.mono (by decide)) (mc' (mv' 0) (mc' (mv' 1) (mc' (mv' 8) mn')))))) (bo (n:=3) (af (ap 9 aU.nd) (af (ap 10 aU.nd) (af (ap 11 aU.nd) aY)))) (mz' (ag 12 aU.nd (mf' G_law_times (hr.mono (by decide)) (mc' (lb hr.units (mv' 7) (mv' 8)) (mc' (mv' 11) mn'))))
   (mz' (mT hr.units (mf' G_law_plus (hr.mono (by decide)) (mc' (fv hr.units (mv' 3) (mc' (mv' 9) (mc' (ae (mc' mh' (mc' mh' mn'))) mn'))) (mc' (mv' 12) mn'))) (mv' 3) (mv' 9))
   (mz' (aM (ak (ba hr.units) (mv' 10) aB (az _)) (aa (ag 4 aU.nd (mf' G_law_plus (hr.mono (by decide)) (mc' (mv' 4) (mc' (mv' 12) mn'))))) am)
   (aa (aM (ak (ba hr.units) (mv' 10) aB (az _)) (aa (ag 5 aU.nd (mf' G_law_plus (hr.mono (by decide)) (mc' (mv' 5) (mc' (mv' 12) mn'))))) am))))) PassesOwn.never)) PassesOwn.never)))) PassesOwn.never)
   (mz' (ag 13 aU.nd (ae (mc' mh' (mc' mh' mn'))))
   (mz' (u3 (bf (rh (mv' 3)) (ap 8 aU.nd) (aa (ag 13 aU.nd (mf' G_law_plus (hr.mono (by decide)) (mc' (mv' 13) (mc' (mf' G_law_times (hr.mono (by decide)) (mc' (ae (mc' (al (iM rfl) (by rfl) T.sum rB (mc' (ab (mv' 8) mh') mn')) (mc' mh' mn'))) (mc' (lb hr.units (mv' 3) (mv' 8)) mn'))) mn'))))) PassesOwn.never))
   (aa (ah (ae (mc' (mv' 13) (mc' (mv' 4) (mc' (mv' 5) mn')))))))))))),?_⟩
 case ar=>rintro as Kc ⟨h,r,n,rfl,_⟩;rfl
 rintro as Kc hl ⟨h,r,n,rfl,hD,k⟩;have ho:=hD.ho;have hr0:=hD.hr;have hn:=hD.le;obtain⟨mn,mo⟩:=zt ho;refine ai (MSt.mk [some (.imm h.d),some (.imm r.d),some (.imm (.int (n:Int))),none,none,none,none,none,none,none,none,none,none,none] [] 0) rfl ?_;walk_at"xs";refine xq ?_;walk_at"xs";refine⟨h,rfl,ho,?_⟩;walk_at"xx";refine⟨ol ho (ls ho r),?_⟩;walk_at"xs";refine⟨by omega,by omega,?_⟩;rw[show((n:Int)).toNat=n by omega];refine bu (fun i m=>∃a6 a7 a8 a9 a10 a11 a12:Option L2.R,(m=MSt.mk [some (.imm h.d),some (.imm r.d),some (.imm (.int (n:Int))),some (.imm (.dict (shD ((botH h^i:Nat):Int) (stW h r i)))),some (.imm (nf (cntW h r .served i) ((botH h^i:Nat):Int))),some (.imm (nf (cntW h r .away i) ((botH h^i:Nat):Int))),a6,a7,a8,a9,a10,a11,a12,none] [] 0)\/m=MSt.mk [some (.imm h.d),some (.imm r.d),some (.imm (.int (n:Int))),some (.at 0 []),some (.imm (nf (cntW h r .served i) ((botH h^i:Nat):Int))),some (.imm (nf (cntW h r .away i) ((botH h^i:Nat):Int))),a6,a7,a8,a9,a10,a11,a12,none] [[.dict (lfKV (shD ((botH h^i:Nat):Int) (stW h r i)))]] 0) ⟨none,none,none,none,none,none,none,.inl ?_⟩ ?_ ?_
 .have z:nf 0 ((botH h^0:Nat):Int) = .tuple [.int 0,.int 1]:=by rw[dL,my (hD.p0 0)];rfl
  have z1:nf 1 ((botH h^0:Nat):Int) = .tuple [.int 1,.int 1]:=by rw[Nat.pow_zero,dL,show nfP 1 ((1:Nat):Int)=(1,1) by decide +kernel];rfl
  show _=MSt.mk [_,_,_,some (.imm (.dict [(ptD (zer h,0),nf 1 ((botH h^0:Nat):Int))])),some (.imm (nf 0 ((botH h^0:Nat):Int))),some (.imm (nf 0 ((botH h^0:Nat):Int))),none,none,none,none,none,none,none,none] [] 0;rw[z,z1];rfl
 .rintro i d m e hnp ⟨a6,a7,a8,a9,a10,a11,a12,hm⟩ D1 hD1 hR1;obtain⟨hi,rfl⟩:=bQ e;have sS:=gc ho hr0 i;have kS:kyA (shD ((botH h^i:Nat):Int) (stW h r i))=true:=uq ho sS;have ln:=qP ho hr0 i;have kd:=pq (h:=h) (r:=r) i;walk_at"xn";refine x_gM ?_;refine fh ?_;refine x_JS (fun m=>∃a6 a8 a9 a10 a11 a12:Option L2.R,m=MSt.mk [some (.imm h.d),some (.imm r.d),some (.imm (.int (n:Int))),some (.imm (.dict (shD ((botH h^i:Nat):Int) (stW h r i)))),some (.imm (nf (cntW h r .served i) ((botH h^i:Nat):Int))),some (.imm (nf (cntW h r .away i) ((botH h^i:Nat):Int))),a6,some (.imm (.dict (shD ((botH h^i:Nat):Int) (stW h r i)))),a8,a9,a10,a11,a12,none] [] 0) (fun N J=>?_) ?_
  .rcases hm with rfl|rfl
   .refine Gc ?_;walk_at"xs";exact J _ ⟨_,_,_,_,_,_,rfl⟩
   .refine Fg ?_;refine Cg 0 3 (shD ((botH h^i:Nat):Int) (stW h r i)) [] (MSt.mk [some (.imm h.d),some (.imm r.d),some (.imm (.int (n:Int))),some (.imm (.dict (shD ((botH h^i:Nat):Int) (stW h r i)))),some (.imm (nf (cntW h r .served i) ((botH h^i:Nat):Int))),some (.imm (nf (cntW h r .away i) ((botH h^i:Nat):Int))),none,none,none,none,none,none,none,none] [] 0) rfl rfl kS ?_ ?_
    .exact ya rfl rfl rfl rfl rfl rfl rfl rfl ⟨.inl rfl,.inl rfl,.inl rfl,.inr ⟨rfl,.inr rfl⟩,.inl rfl,.inl rfl,.inl trivial,.inl trivial,.inl trivial,.inl trivial,.inl trivial,.inl trivial,.inl trivial,.inl trivial,trivial⟩
    walk_at"xs";exact J _ ⟨_,_,_,_,_,_,rfl⟩
  clear hm;rintro _ ⟨a6,a8,a9,a10,a11,a12,rfl⟩;walk_at"xn";refine fh (pQ (qv (gX ?_)));walk_at"xx";refine zO ?_;walk_at"xs";refine qp (by rw[kS,Bool.or_true]) ?_;have P1:=hD.p0 (i+1);have B1:=hD.pw (k:=i+1) (by omega);have cS:=k9 ho hD.h0 r .served i;have cA:=k9 ho hD.h0 r .away i;have up0:∀w:Wd,nf (cntW h r w i) ((botH h^i:Nat):Int)=nf (cntW h r w i*(botH h:Int)+getA w []) ((botH h^(i+1):Nat):Int):=fun w=>by
   have bp:=l4 ho;rw[dL,dL,Ip (hD.p0 i) (show(0:Int)<(botH h:Int) by omega),<-Int.natCast_mul,<-Nat.pow_succ];show _=frT (nfP (_+0) _).1 (nfP (_+0) _).2;rw[Int.add_zero]
  rw[up0,up0];refine bu (fun j m=>∃a6 a8 a9 a10 a11 a12:Option L2.R,m=MSt.mk [some (.imm h.d),some (.imm r.d),some (.imm (.int (n:Int))),some (.at 0 []),some (.imm (nf (cntW h r .served i*(botH h:Int)+getA .served (((stW h r i).take j).foldl (goW h r (msL h)) ([],[])).2) ((botH h^(i+1):Nat):Int))),some (.imm (nf (cntW h r .away i*(botH h:Int)+getA .away (((stW h r i).take j).foldl (goW h r (msL h)) ([],[])).2) ((botH h^(i+1):Nat):Int))),a6,some (.imm (.dict (shD ((botH h^i:Nat):Int) (stW h r i)))),a8,a9,a10,a11,a12,none] [[.dict (lfKV (shD ((botH h^(i+1):Nat):Int) (((stW h r i).take j).foldl (goW h r (msL h)) ([],[])).1))]] 0/\GoOk h r (29*j) (((stW h r i).take j).foldl (goW h r (msL h)) ([],[]))/\GoB ((29*j:Nat)*((botH h^(i+1):Nat):Int)) (((stW h r i).take j).foldl (goW h r (msL h)) ([],[]))) ⟨a6,a8,a9,a10,a11,a12,rfl,⟨fun _ hp=>(by cases hp),Nat.le_refl _,Nat.le_refl _⟩,⟨fun _ hp=>(by cases hp),fun _ hp=>(by cases hp),?_,?_⟩⟩ ?_ ?_
  .show(0:Int)≤0*_;rw[Int.zero_mul];exact Int.le_refl 0
  .show(0:Int)≤0*_;rw[Int.zero_mul];exact Int.le_refl 0
  .rintro j d m e hnp ⟨b6,b8,b9,b10,b11,b12,rfl,G0,Q0⟩ D2 hD2 hR2;obtain⟨⟨⟨l,t⟩,wt⟩,ep,rfl,hj⟩:=wy e;have hS:=sS _ (List.mem_of_getElem? ep);have efold:((stW h r i).take (j+1)).foldl (goW h r (msL h)) ([],[])=goW h r (msL h) (((stW h r i).take j).foldl (goW h r (msL h)) ([],[])) ((l,t),wt):=by
    rw[List.take_succ,ep,List.foldl_append];rfl
   have elook:=lV (f:=frV ((botH h^i:Nat):Int)) kG kd ep;have w0:=oq ho hD.h0 r i _ (List.mem_of_getElem? ep);have w1:=(fq (oq ho hD.h0 r i)).2 _ (List.mem_of_getElem? ep);rw[ja ho hD.h0 r i]at w1;have B0:=hD.pw (k:=i) (by omega);have fW:FrOk (nfP wt ((botH h^i:Nat):Int)).1 (nfP wt ((botH h^i:Nat):Int)).2:=nq (hD.p0 i) (Nat.lt_trans (show wt.natAbs<10^67 by dsimp only at w0 w1;omega) (by decide)) (by rw[Int.natAbs_natCast];exact Nat.lt_trans B0 (by decide));have amt:∀q∈msL h,0≤wt*q.2/\wt*q.2≤((botH h^(i+1):Nat):Int):=fun q hq=>hD.amt (List.mem_of_getElem? ep) hq;rw[efold]at hD2;generalize hx0:((stW h r i).take j).foldl (goW h r (msL h)) ([],[])=x0 at *;walk_at"xs";refine⟨h,r,l,t,rfl,ho,hr0,hS,?_⟩;walk_at"xx";refine bu (fun z m=>∃a9 a10 a11 a12:Option L2.R,m=MSt.mk [some (.imm h.d),some (.imm r.d),some (.imm (.int (n:Int))),some (.at 0 []),some (.imm (nf (cntW h r .served i*(botH h:Int)+getA .served (((msL h).take z).foldl (fun x q=>goW1 h r (l,t) wt q x) x0).2) ((botH h^(i+1):Nat):Int))),some (.imm (nf (cntW h r .away i*(botH h:Int)+getA .away (((msL h).take z).foldl (fun x q=>goW1 h r (l,t) wt q x) x0).2) ((botH h^(i+1):Nat):Int))),b6,some (.imm (.dict (shD ((botH h^i:Nat):Int) (stW h r i)))),some (.imm (ptD (l,t))),a9,a10,a11,a12,none] [[.dict (lfKV (shD ((botH h^(i+1):Nat):Int) (((msL h).take z).foldl (fun x q=>goW1 h r (l,t) wt q x) x0).1))]] 0/\GoOk h r (29*j+z) (((msL h).take z).foldl (fun x q=>goW1 h r (l,t) wt q x) x0)/\GoB ((29*j+z:Nat)*((botH h^(i+1):Nat):Int)) (((msL h).take z).foldl (fun x q=>goW1 h r (l,t) wt q x) x0)) ⟨b9,b10,b11,b12,rfl,G0,Q0⟩ ?_ ?_
   .rintro z d m ez hnz ⟨c9,c10,c11,c12,rfl,G1,Q1⟩ D3 hD3 hR3;obtain⟨q,eq,rfl,hz⟩:=gmap ez;have hq:=List.mem_of_getElem? eq;have eM:=Im eq;have hmq:=mo _ (List.mem_of_getElem? eM);obtain⟨fQ,eQ⟩:=hD.part (k:=i) wt hq;obtain⟨am0,am1⟩:=amt _ (List.mem_of_getElem? eM);have efold1:((msL h).take (z+1)).foldl (fun x q=>goW1 h r (l,t) wt q x) x0=goW1 h r (l,t) wt (q.1,q.2.1*((botH h/q.2.2:Nat):Int)) (((msL h).take z).foldl (fun x q=>goW1 h r (l,t) wt q x) x0):=by
     rw[List.take_succ,eM,List.foldl_append];rfl
    have G2:=G1.next ho hr0 hS wt hmq.1;have Q2:=Q1.next (h:=h) (r:=r) (p:=(l,t)) am0 am1;have zl:(msL h).length=(shrM h).length:=by unfold msL;rw[List.length_map]
    have zb:z<29:=by omega
    rw[efold1]at hD3;generalize ((msL h).take z).foldl (fun x q=>goW1 h r (l,t) wt q x) x0=x1 at *;have hS2:=l5 ho hr0 hS hmq.1;rw[show behD h r l t q = .tuple [ptD ((bO h r l t q.1).1,(bO h r l t q.1).2.1),wdD (bO h r l t q.1).2.2,.tuple [.int q.2.1,.int (q.2.2:Int)]]from rfl];unfold goW1 at G2 Q2 hD3;dsimp only at eQ am0 am1 G2 Q2 hD3⊢;generalize hv:wt*(q.2.1*((botH h/q.2.2:Nat):Int))=v at *;generalize bO h r l t q.1=mm at *;obtain⟨l2,t2,wd⟩:=mm;dsimp only at hS2 G2 Q2 hD3⊢;have kyS:kyA (shD ((botH h^(i+1):Nat):Int) x1.1)=true:=uq ho G1.st;have ky2:=ol ho hS2;have m1:=G1.n1;have bd:∀y:Int,0≤y->y≤((29*j+z:Nat):Int)*((botH h^(i+1):Nat):Int)->y.natAbs<10^76:=fun y h1 h2=>Ap (k:=29*j+z) h1 h2 (Int.le_refl _) (by omega) B1;have frB:∀y:Int,y.natAbs<10^76->FrOk (nfP y ((botH h^(i+1):Nat):Int)).1 (nfP y ((botH h^(i+1):Nat):Int)).2:=fun y hy=>nq P1 hy (by rw[Int.natAbs_natCast];exact Nat.lt_trans B1 (by decide));have frv:FrOk (nfP v ((botH h^(i+1):Nat):Int)).1 (nfP v ((botH h^(i+1):Nat):Int)).2:=frB v (Nat.lt_trans (show v.natAbs<10^67 by omega) (by decide));have g1:=lz (l2,t2) Q1.n1;have gw:∀w,0≤getA w x1.2/\getA w x1.2≤sumA x1.2:=fun w=>lz w Q1.n2;have qs1:=Q1.s1;have qs2:=Q1.s2;have eAdd:∀a b:Int,addF (nfP a ((botH h^(i+1):Nat):Int)).1 (nfP a ((botH h^(i+1):Nat):Int)).2 (nfP b ((botH h^(i+1):Nat):Int)).1 (nfP b ((botH h^(i+1):Nat):Int)).2=nf (a+b) ((botH h^(i+1):Nat):Int):=fun a b=>by unfold addF;rw[dL,lL P1,<-dL]
    rw[gH,gH]at hD3;walk_at"xs"
    .rfl
    walk_at"xs";refine⟨shD ((botH h^i:Nat):Int) (stW h r i),frV ((botH h^i:Nat):Int) wt,rfl,by unfold oneK;rw[kS,show kyD (ptD (l,t))=true from ol ho hS,Bool.and_true,Bool.or_true],elook,?_⟩;walk_at"xs";refine⟨(nfP wt ((botH h^i:Nat):Int)).1,(nfP wt ((botH h^i:Nat):Int)).2,q.2.1,(q.2.2:Int),rfl,fW,fQ,?_⟩;rw[show mulF (nfP wt ((botH h^i:Nat):Int)).1 (nfP wt ((botH h^i:Nat):Int)).2 q.2.1 (q.2.2:Int)=nf v ((botH h^(i+1):Nat):Int) by unfold mulF;rw[dL,eQ,<-dL]];walk_at"xn";refine bJ ?_;walk_at"xn";refine fh ?_;refine xK ?_;walk_at"xs";refine jS ?_;walk_at"xs";refine⟨shD ((botH h^(i+1):Nat):Int) x1.1,⟨rfl,rfl⟩,.inr kyS,?_⟩;walk_at"xs";refine⟨shD ((botH h^(i+1):Nat):Int) x1.1,ptD (l2,t2),.tuple [.int 0,.int 1],rfl,⟨rfl,rfl⟩,by unfold oneK;rw[kyS,show kyD (ptD (l2,t2))=true from ky2,Bool.and_true,Bool.or_true],?_⟩;have z0:PyData.tuple [.int 0,.int 1]=frV ((botH h^(i+1):Nat):Int) 0:=by unfold frV;rw[dL,my P1];rfl
    rw[z0,show shD ((botH h^(i+1):Nat):Int) x1.1=kvG ptD (frV ((botH h^(i+1):Nat):Int)) x1.1 from rfl,uB kG];walk_at"xs";refine⟨(nfP (getA (l2,t2) x1.1) ((botH h^(i+1):Nat):Int)).1,(nfP (getA (l2,t2) x1.1) ((botH h^(i+1):Nat):Int)).2,(nfP v ((botH h^(i+1):Nat):Int)).1,(nfP v ((botH h^(i+1):Nat):Int)).2,rfl,frB _ (bd _ g1.1 (by omega)),frv,?_⟩;rw[eAdd];walk_at"xx";refine⟨rfl,shD ((botH h^(i+1):Nat):Int) x1.1,rfl,kyS,ky2,by unfold shD kvG;rw[List.length_map,sizeLine_eq];omega,?_⟩;rw[show nf (getA (l2,t2) x1.1+v) ((botH h^(i+1):Nat):Int)=frV ((botH h^(i+1):Nat):Int) (getA (l2,t2) x1.1+v)from rfl,show shD ((botH h^(i+1):Nat):Int) x1.1=kvG ptD (frV ((botH h^(i+1):Nat):Int)) x1.1 from rfl,zM kG];walk_at"xn";have cB:∀w,(cntW h r w i*(botH h:Int)+getA w x1.2).natAbs<10^76:=fun w=>by
     obtain⟨c0,c1⟩:=k9 ho hD.h0 r w i;have c2:cntW h r w i*(botH h:Int)≤(i:Int)*((botH h^(i+1):Nat):Int):=by
      rw[Nat.pow_succ,Int.natCast_mul,<-Int.mul_assoc];exact Int.mul_le_mul_of_nonneg_right c1 (by omega)
     have c3:=Int.mul_nonneg c0 (show(0:Int)≤(botH h:Int) by omega);have c4:=gw w;refine Ap (k:=i+(29*j+z)) (c:=(i:Int)*((botH h^(i+1):Nat):Int)+((29*j+z:Nat):Int)*((botH h^(i+1):Nat):Int)) (by omega) (by omega) ?_ (by omega) B1;rw[Int.natCast_add i,Int.add_mul];exact Int.le_refl _
    have s29:((29*j+z:Nat):Int)*((botH h^(i+1):Nat):Int)+((botH h^(i+1):Nat):Int)=((29*j+(z+1):Nat):Int)*((botH h^(i+1):Nat):Int):=by
     rw[<-Nat.add_assoc,Int.natCast_add _ 1,Int.add_mul,show((1:Nat):Int)=1 from rfl,Int.one_mul]
    rw[s29]at Q2
    cases wd with
    |served =>
     dsimp only[wdD,Wd.s];walk_at"xs";refine aA (fun _=>?_) (fun z=>(z rfl).elim);walk_at"xs";refine⟨(nfP (cntW h r .served i*(botH h:Int)+getA .served x1.2) ((botH h^(i+1):Nat):Int)).1,(nfP (cntW h r .served i*(botH h:Int)+getA .served x1.2) ((botH h^(i+1):Nat):Int)).2,(nfP v ((botH h^(i+1):Nat):Int)).1,(nfP v ((botH h^(i+1):Nat):Int)).2,rfl,frB _ (cB .served),frv,?_⟩;rw[eAdd];walk_at"xn";refine bJ ?_;walk_at"xx";refine aA (fun z=>absurd z (by decide +kernel)) (fun _=>?_);walk_at"xs";refine hD3 _ ⟨some (.imm (ptD (l2,t2))),some (.imm (wdD .served)),some (.imm (.tuple [.int q.2.1,.int (q.2.2:Int)])),some (.imm (nf v ((botH h^(i+1):Nat):Int))),?_,G2,Q2⟩;rw[if_pos rfl,if_neg (show ¬Wd.served=Wd.away from fun z=>by cases z),Int.add_zero,Int.add_assoc];rfl
    |away =>
     dsimp only[wdD,Wd.s];walk_at"xs";refine aA (fun z=>absurd z (by decide +kernel)) (fun _=>?_);walk_at"xs";refine aA (fun _=>?_) (fun z=>(z rfl).elim);walk_at"xs";refine⟨(nfP (cntW h r .away i*(botH h:Int)+getA .away x1.2) ((botH h^(i+1):Nat):Int)).1,(nfP (cntW h r .away i*(botH h:Int)+getA .away x1.2) ((botH h^(i+1):Nat):Int)).2,(nfP v ((botH h^(i+1):Nat):Int)).1,(nfP v ((botH h^(i+1):Nat):Int)).2,rfl,frB _ (cB .away),frv,?_⟩;rw[eAdd];walk_at"xn";refine bJ ?_;walk_at"xn";refine hD3 _ ⟨some (.imm (ptD (l2,t2))),some (.imm (wdD .away)),some (.imm (.tuple [.int q.2.1,.int (q.2.2:Int)])),some (.imm (nf v ((botH h^(i+1):Nat):Int))),?_,G2,Q2⟩;rw[if_pos rfl,if_neg (show ¬Wd.away=Wd.served from fun z=>by cases z),Int.add_zero,Int.add_assoc];rfl
    |taken =>
     dsimp only[wdD,Wd.s];walk_at"xs";refine aA (fun z=>absurd z (by decide +kernel)) (fun _=>?_);walk_at"xs";refine aA (fun z=>absurd z (by decide +kernel)) (fun _=>?_);walk_at"xs";refine hD3 _ ⟨some (.imm (ptD (l2,t2))),some (.imm (wdD .taken)),some (.imm (.tuple [.int q.2.1,.int (q.2.2:Int)])),some (.imm (nf v ((botH h^(i+1):Nat):Int))),?_,G2,Q2⟩;rw[if_neg (show ¬Wd.taken=Wd.away from fun z=>by cases z),if_neg (show ¬Wd.taken=Wd.served from fun z=>by cases z),Int.add_zero,Int.add_zero];rfl
    |none =>
     dsimp only[wdD,Wd.s];walk_at"xs";refine aA (fun z=>absurd z (by decide +kernel)) (fun _=>?_);walk_at"xs";refine aA (fun z=>absurd z (by decide +kernel)) (fun _=>?_);walk_at"xs";refine hD3 _ ⟨some (.imm (ptD (l2,t2))),some (.imm (wdD .none)),some (.imm (.tuple [.int q.2.1,.int (q.2.2:Int)])),some (.imm (nf v ((botH h^(i+1):Nat):Int))),?_,G2,Q2⟩;rw[if_neg (show ¬Wd.none=Wd.away from fun z=>by cases z),if_neg (show ¬Wd.none=Wd.served from fun z=>by cases z),Int.add_zero,Int.add_zero];rfl
   .rintro m hnz ⟨c9,c10,c11,c12,rfl,G1,Q1⟩;have el:((shrM h).map (behD h r l t)).length=(msL h).length:=by unfold msL;rw[List.length_map,List.length_map]
    rw[el,List.take_length]at G1 Q1⊢;have eg:(msL h).foldl (fun x q=>goW1 h r (l,t) wt q x) x0=goW h r (msL h) x0 ((l,t),wt):=rfl;rw[eg]at G1 Q1⊢;refine hD2 _ ⟨_,_,_,_,_,_,rfl,⟨G1.st,Nat.le_trans G1.n1 (by omega),Nat.le_trans G1.n2 (by omega)⟩,⟨Q1.n1,Q1.n2,Int.le_trans Q1.s1 ?_,Int.le_trans Q1.s2 ?_⟩⟩<;>exact Int.mul_le_mul_of_nonneg_right (by omega) (by omega)
  .rintro m hnp ⟨b6,b8,b9,b10,b11,b12,rfl,G0,Q0⟩;rw[wQ,List.take_length];exact hD1 _ ⟨_,_,_,_,_,_,_,.inr rfl⟩
 .rintro m hnp ⟨a6,a7,a8,a9,a10,a11,a12,hm⟩;rw[aE]at hm;have sS:=gc ho hr0 n;have kS:kyA (shD ((botH h^n:Nat):Int) (stW h r n))=true:=uq ho sS;have ln:=qP ho hr0 n;have kd:=pq (h:=h) (r:=r) n;have P1:=hD.p0 n;have B1:=hD.pw (Nat.le_refl n);walk_at"xn";have w0:=oq ho hD.h0 r n;have w1:=(fq w0).2;rw[ja ho hD.h0 r n]at w1;have frB:∀y:Int,y.natAbs<10^76->FrOk (nfP y ((botH h^n:Nat):Int)).1 (nfP y ((botH h^n:Nat):Int)).2:=fun y hy=>nq P1 hy (by rw[Int.natAbs_natCast];exact Nat.lt_trans B1 (by decide));have eAdd:∀a b:Int,addF (nfP a ((botH h^n:Nat):Int)).1 (nfP a ((botH h^n:Nat):Int)).2 (nfP b ((botH h^n:Nat):Int)).1 (nfP b ((botH h^n:Nat):Int)).2=nf (a+b) ((botH h^n:Nat):Int):=fun a b=>by unfold addF;rw[dL,lL P1,<-dL]
  have z0:PyData.tuple [.int 0,.int 1]=nf 0 ((botH h^n:Nat):Int):=by rw[dL,my P1];rfl
  have sm:∀p∈stW h r n,p.1.1.sum≤24:=fun p hp=>ie ho (sS p hp).ln;have tb:∀z,z≤(stW h r n).length->(((stW h r n).take z).map fun p=>p.2*(p.1.1.sum:Int)).sum.natAbs<10^76:=fun z hz=>by
   have h1:=mr (f:=fun p:Pt×Int=>p.2*(p.1.1.sum:Int)) (B:=10^66*24) (L:=(stW h r n).take z) fun p hp=>by
    have hp':=List.mem_of_mem_take hp;have a0:=w0 p hp';have a1:=w1 p hp';rw[Int.natAbs_mul];exact Nat.mul_le_mul (by omega) (by have:=sm p hp';omega)
   have h2:((stW h r n).take z).length*(10^66*24)≤100000*(10^66*24):=Nat.mul_le_mul (by rw[List.length_take];omega) (Nat.le_refl _);exact Nat.lt_of_le_of_lt (Nat.le_trans h1 h2) (by decide)
  have fin:∀(a6 a7 a8 a9 a10 a11 a12:Option L2.R),wFor (qR (wVar 3)) (gM 8) (wSet 13 (o9 uV (ij (wVar 13) (ij (o9 yx (ij (wTup (ij (wCB DA (ij (wBin lq (wVar 8) (wC (PyData.int 0))) wNil)) (ij (wC (PyData.int 1)) wNil))) (ij (yl (wVar 3) (wVar 8)) wNil))) wNil)))) {nx:=fun m'=>wRet (wTup (ij (wVar 13) (ij (wVar 4) (ij (wVar 5) wNil)))) {nx:=fun m=>Kc (R.imm PyData.none) (List.take m.np m.os),rt:=fun r m=>retK Kc m r} m',rt:={nx:=fun m=>Kc (R.imm PyData.none) (List.take m.np m.os),rt:=fun r m=>retK Kc m r:cZ}.rt} (MSt.mk [some (.imm h.d),some (.imm r.d),some (.imm (.int (n:Int))),some (.imm (.dict (shD ((botH h^n:Nat):Int) (stW h r n)))),some (.imm (nf (cntW h r .served n) ((botH h^n:Nat):Int))),some (.imm (nf (cntW h r .away n) ((botH h^n:Nat):Int))),a6,a7,a8,a9,a10,a11,a12,some (.imm (.tuple [.int 0,.int 1]))] [] 0):=by
   intro a6 a7 a8 a9 a10 a11 a12;rw[z0];walk_at"xs";refine zO ?_;walk_at"xs";refine qp (by rw[kS,Bool.or_true]) ?_;refine bu (fun z m=>∃a8:Option L2.R,m=MSt.mk [some (.imm h.d),some (.imm r.d),some (.imm (.int (n:Int))),some (.imm (.dict (shD ((botH h^n:Nat):Int) (stW h r n)))),some (.imm (nf (cntW h r .served n) ((botH h^n:Nat):Int))),some (.imm (nf (cntW h r .away n) ((botH h^n:Nat):Int))),a6,a7,a8,a9,a10,a11,a12,some (.imm (nf ((((stW h r n).take z).map fun p=>p.2*(p.1.1.sum:Int)).sum) ((botH h^n:Nat):Int)))] [] 0) ⟨a8,rfl⟩ ?_ ?_
   .rintro z d m ez hnz ⟨b8,rfl⟩ D4 hD4 hR4;obtain⟨⟨⟨l,t⟩,wt⟩,ep,rfl,hz⟩:=wy ez;have hp:=List.mem_of_getElem? ep;have hS:=sS _ hp;have elook:=lV (f:=frV ((botH h^n:Nat):Int)) kG kd ep;have s24:=sm _ hp;have a0:=w0 _ hp;have a1:=w1 _ hp;dsimp only at s24 a0 a1 hS;have tz:=tb z (by omega);rw[List.take_succ,ep,List.map_append,List.sum_append]at hD4;generalize (((stW h r n).take z).map fun p=>p.2*(p.1.1.sum:Int)).sum=acc at tz hD4⊢;rw[show ptD (l,t) = .tuple [.tuple (natD l),.int (t:Int)]from rfl]at elook⊢;walk_at"xs";refine ui rfl (rj l) ?_;rw[qj];walk_at"xs";refine⟨shD ((botH h^n:Nat):Int) (stW h r n),frV ((botH h^n:Nat):Int) wt,rfl,by unfold oneK;rw[kS,show kyD (.tuple [.tuple (natD l),.int (t:Int)])=true from ol ho hS,Bool.and_true,Bool.or_true],elook,?_⟩;walk_at"xs";refine⟨((l.sum:Nat):Int),1,(nfP wt ((botH h^n:Nat):Int)).1,(nfP wt ((botH h^n:Nat):Int)).2,rfl,⟨Nat.lt_of_le_of_lt (show((l.sum:Nat):Int).natAbs≤24 by omega) (by decide),by decide,by decide⟩,frB wt (Nat.lt_trans (show wt.natAbs<10^67 by omega) (by decide)),?_⟩;rw[show mulF ((l.sum:Nat):Int) 1 (nfP wt ((botH h^n:Nat):Int)).1 (nfP wt ((botH h^n:Nat):Int)).2=nf (wt*((l.sum:Nat):Int)) ((botH h^n:Nat):Int) by unfold mulF;rw[dL,t6 P1,<-dL]];walk_at"xx";have mb:(wt*((l.sum:Nat):Int)).natAbs<10^76:=by
     rw[Int.natAbs_mul];exact Nat.lt_of_le_of_lt (Nat.mul_le_mul (show wt.natAbs≤10^66 by omega) (show((l.sum:Nat):Int).natAbs≤24 by omega)) (by decide)
    refine⟨(nfP acc ((botH h^n:Nat):Int)).1,(nfP acc ((botH h^n:Nat):Int)).2,(nfP (wt*((l.sum:Nat):Int)) ((botH h^n:Nat):Int)).1,(nfP (wt*((l.sum:Nat):Int)) ((botH h^n:Nat):Int)).2,rfl,frB _ tz,frB _ mb,?_⟩;rw[eAdd];walk_at"xn";refine bJ ?_;walk_at"xn";rw[show(List.map (fun p:Pt×Int=>p.2*(p.1.1.sum:Int)) (some ((l,t),wt)).toList).sum=wt*((l.sum:Nat):Int)from Int.add_zero _]at hD4;exact hD4 _ ⟨_,rfl⟩
   .rintro m hnz ⟨b8,rfl⟩;rw[wQ,List.take_length];walk_at"xs";exact k
  rcases hm with rfl|rfl
  .walk_at"xs";refine Gc ?_;exact fin a6 a7 a8 a9 a10 a11 a12
  .walk_at"xs";refine Fg ?_;refine Cg 0 3 (shD ((botH h^n:Nat):Int) (stW h r n)) [] (MSt.mk [some (.imm h.d),some (.imm r.d),some (.imm (.int (n:Int))),some (.imm (.dict (shD ((botH h^n:Nat):Int) (stW h r n)))),some (.imm (nf (cntW h r .served n) ((botH h^n:Nat):Int))),some (.imm (nf (cntW h r .away n) ((botH h^n:Nat):Int))),none,none,none,none,none,none,none,some (.imm (.tuple [.int 0,.int 1]))] [] 0) rfl rfl kS ?_ ?_
   .exact ya rfl rfl rfl rfl rfl rfl rfl rfl ⟨.inl rfl,.inl rfl,.inl rfl,.inr ⟨rfl,.inr rfl⟩,.inl rfl,.inl rfl,.inl trivial,.inl trivial,.inl trivial,.inl trivial,.inl trivial,.inl trivial,.inl trivial,.inl rfl,trivial⟩
   exact fin none none none none none none none
theorem JZ(T:Bl K mg){ff:Addr}{fd:FuncData}(F:Fun K "law" "law" slaw ff fd)(G_law_tape:FnM P w K mg base "_law_tape" 1 1 Au)(G_law_hall:FnM P w K mg base "_law_hall" 4 2 vP)(G_law_rule:FnM P w K mg base "_law_rule" 2 2 vm)(G_law_all_lines:FnM P w K mg base "_law_all_lines" 1 1 yM)(G_law_draw:FnM P w K mg base "_law_draw" 1 2 jG)(G_law_due:FnM P w K mg base "_law_due" 6 3 zK)(Gmeans_of:FnM P w K mg base "means_of" 7 3 uR)(G_law_plus:FnM P w K mg base "_law_plus" 2 2 uV)(G_law_times:FnM P w K mg base "_law_times" 2 2 yx):FnOk P w K mg base CX0 9 ff fd ["_law_script"] (spOf ⟨K,w⟩ 1 yp):=by
 refine Dm F dW rfl (nN:=13) rfl (by decide) fun cdv A outer s H E f hr=>⟨_,(mz' (ag 1 dW.nd (mf' G_law_tape (hr.mono (by decide)) (mc' (mv' 0) mn')))
   (mz' (ag 2 dW.nd (dG (bR (mc' (ae (mc' mh' mn')) (mc' (ae (mc' mh' mn')) (mc' (ae (mc' mh' (mc' mh' mn'))) (mc' (ae (mc' mh' (mc' mh' mn'))) (mc' (ae (mc' mh' (mc' mh' mn'))) (mc' (ae (mc' mh' (mc' mh' mn'))) (mc' (ae (mc' mh' (mc' mh' mn'))) (mc' (ae (mc' mh' (mc' mh' (mc' mh' mn')))) (mc' (ae (mc' mh' (mc' mh' (mc' mh' mn')))) (mc' (ae (mc' mh' (mc' mh' (mc' mh' (mc' mh' mn'))))) mn')))))))))))))
   (mz' (bf (bz (by rfl) T.range (mc' mh' mn')) (ap 3 dW.nd) (mz' (ag 4 dW.nd (mf' G_law_hall (hr.mono (by decide)) (mc' (mv' 1) (mc' (mv' 2) mn'))))
   (mz' (ag 5 dW.nd (mf' G_law_rule (hr.mono (by decide)) (mc' (mv' 1) (mc' (mv' 4) mn'))))
   (mz' (aM (EW.pt (fz (ak (ba hr.units) (ab (mv' 5) mh') aB (az _)) (h7 (ak (ba hr.units) (al aK (by rfl) T.len bX (mc' (ab (mv' 4) mh') mn')) mh' (az _))))) (aa (ag 5 dW.nd (ae (mc' aB mn')))) am)
   (mz' (ag 6 dW.nd mh')
   (mz' (aM (EW.pt (v3 (ak (ba hr.units) (al aK (by rfl) T.len bX (mc' (ab (mv' 4) mh') mn')) mh' (az _)) (vW (EW.pt (fz (ak (ba hr.units) (al aK (by rfl) T.len bX (mc' (mf' G_law_all_lines (hr.mono (by decide)) (mc' (mv' 4) mn')) mn')) mh' (az _)) (h7 (ak (ba hr.units) (mf' G_law_draw (hr.mono (by decide)) (mc' (mv' 1) (mc' mh' mn'))) mh' (az _)))))))) (aa (ag 6 dW.nd mh')) am)
   (mz' (aM (ak (ba hr.units) (al aK (by rfl) T.len bX (mc' (ab (mv' 4) mh') mn')) mh' (az _)) (aa (ag 6 dW.nd mh')) am)
   (mz' (ag 7 dW.nd (mf' G_law_draw (hr.mono (by decide)) (mc' (mv' 1) (mc' (ac aI (mv' 6) mh') mn'))))
   (mz' (ag 8 dW.nd (dG (bR (mc' (mv' 7) (mc' (ac pf (mv' 6) (mv' 7)) (mc' mh' (mc' (mv' 7) mn')))))))
   (mz' (aM (EW.pt (fz (ak (ba hr.units) (al aK (by rfl) T.len bX (mc' (ab (mv' 4) mh') mn')) mh' (az _)) (fz (ak (ba hr.units) (al aK (by rfl) T.len bX (mc' (mf' G_law_all_lines (hr.mono (by decide)) (mc' (mv' 4) mn')) mn')) mh' (az _)) (fz (ak (ou hr.units) (ab (mv' 5) mh') aB (az _)) (h7 (ak (ba hr.units) (mf' G_law_draw (hr.mono (by decide)) (mc' (mv' 1) (mc' mh' mn'))) mh' (az _))))))) (aa (ag 8 dW.nd (dG (bR (mc' (ac aI mh' (mf' G_law_draw (hr.mono (by decide)) (mc' (mv' 1) (mc' mh' mn')))) mn'))))) am)
   (mz' (aM (ak (ba hr.units) (mf' G_law_draw (hr.mono (by decide)) (mc' (mv' 1) (mc' mh' mn'))) mh' (az _)) (mz' (ag 4 dW.nd (ae (mc' (ae (mc' mh' (mc' mh' mn'))) (mc' (ae (mc' (ae (mc' (ae (mc' mh' (mc' mh' mn'))) (mc' mh' mn'))) (mc' (ae (mc' (ae (mc' mh' (mc' mh' mn'))) (mc' mh' mn'))) (mc' (ae (mc' (ae (mc' mh' (mc' mh' mn'))) (mc' mh' mn'))) mn')))) (mc' (iI (ba hr.units) (mf' G_law_draw (hr.mono (by decide)) (mc' (mv' 1) (mc' mh' mn'))) mh' (az _)) mn')))))
   (mz' (ag 5 dW.nd (ae (mc' aB mn')))
   (aa (ag 8 dW.nd (dG (bR (mc' mh' (mc' mh' mn')))))))) am)
   (mz' (ag 9 dW.nd jq)
   (aa (bf (bG (mv' 8)) (ap 10 dW.nd) (mz' (aM (ak (tw hr.units) (mv' 10) (mv' 9) (by with_unfolding_all rfl)) (aa (qy hr.units (mf' G_law_due (hr.mono (by decide)) (mc' (mv' 4) (mc' (mv' 5) (mc' (mv' 10) mn')))) (mv' 9) (mv' 10))) am)
   (mz' (ag 11 dW.nd (mf' Gmeans_of (hr.mono (by decide)) (mc' (mv' 4) (mc' (mv' 5) (mc' (mv' 10) mn')))))
   (mz' (aM (ak (ou hr.units) (al (k8 hr.gd hr.u200) (by rfl) T.repr vx (mc' (mv' 11) mn')) (al (k8 hr.gd hr.u200) (by rfl) T.repr vx (mc' (lb hr.units (mv' 9) (mv' 10)) mn')) (az _)) (aa (ah v8)) am)
   (mz' (ag 12 dW.nd (mf' G_law_plus (hr.mono (by decide)) (mc' (ab (mv' 11) mh') (mc' (mf' G_law_plus (hr.mono (by decide)) (mc' (ab (mv' 11) mh') (mc' (ab (mv' 11) mh') mn'))) mn'))))
   (aa (aM (ak (ou hr.units) (mv' 12) (mf' G_law_times (hr.mono (by decide)) (mc' (ae (mc' (mv' 10) (mc' mh' mn'))) (mc' (ab (mv' 4) mh') mn'))) (az _)) (aa (ah v8)) am)))))) PassesOwn.never))))))))))))) PassesOwn.never)
   (aa (ah v8))))),?_⟩
 rintro as Kc hl ⟨ns,rfl,hn,k⟩;refine ai (MSt.mk [some (.imm (.list (ns.map .int))),none,none,none,none,none,none,none,none,none,none,none,none] [] 0) rfl ?_;walk_at"xs";refine⟨ns,rfl,hn,fun fd hf=>?_⟩;walk_at"xn";refine cE ?_;walk_at"xx";refine⟨by decide,by decide,?_⟩;refine bu (fun i m=>∃(a3 a4 a5 a6 a7 a8 a9 a10 a11 a12:Option L2.R) (fd:List PyData) (L:List (List PyData)),m=MSt.mk [some (.imm (.list (ns.map .int))),some (.obj 0),some (.imm (.list (menu35.map lnD))),a3,a4,a5,a6,a7,a8,a9,a10,a11,a12] (fd::L) 0/\TapeD (3000*i) fd) ⟨none,none,none,none,none,none,none,none,none,none,fd,[],rfl,hf⟩ ?_ ?_
 .rintro i d m e hnp ⟨a3,a4,a5,a6,a7,a8,a9,a10,a11,a12,fd,L,rfl,hf⟩ D1 hD1 hR1;obtain⟨hi,rfl⟩:=bQ e;have hi2:i<2:=hi;walk_at"xs";refine⟨fd,_,_,rfl,uU,hf,by omega,fun h S fd ho hS hf=>?_⟩;have n1:=ho.n1;have n4:=ho.n4;refine sr [0] (MSt.mk [some (.imm (.list (ns.map .int))),some (.obj 0),some (.imm (.list (menu35.map lnD))),none,some (.imm h.d),none,none,none,none,none,none,none,none] [fd] 0) (wq rfl rfl rfl rfl rfl rfl ⟨rfl,⟨0,rfl,rfl⟩,rfl,trivial,rfl,trivial,trivial,trivial,trivial,trivial,trivial,trivial,trivial,trivial⟩) ?_;walk_at"xs";refine⟨fd,_,h,rfl,ho,hf,by omega,fun r fd hr hf=>?_⟩;walk_at"xn";refine bJ ?_;walk_at"xn";refine fh ?_;refine x_JS (fun m=>∃r:Rule,r.Ok h/\m=MSt.mk [some (.imm (.list (ns.map .int))),some (.obj 0),some (.imm (.list (menu35.map lnD))),none,some (.imm (.tuple [.tuple [.int h.a,.int h.b],.tuple (h.ss.map Srv.d),.bool h.mv])),some (.imm r.d),none,none,none,none,none,none,none] [fd] 0) (fun N J=>?_) ?_
  .obtain⟨ds,ed⟩:∃ds,r.d = .tuple (.str r.word::ds):=by cases r<;>exact⟨_,rfl⟩
   have J0:=J _ ⟨r,hr,rfl⟩;rw[ed]at J0⊢;refine ai (MSt.mk [some (.imm (.list (ns.map .int))),some (.obj 0),some (.imm (.list (menu35.map lnD))),none,some (.imm (.tuple [.tuple [.int h.a,.int h.b],.tuple (h.ss.map Srv.d),.bool h.mv])),some (.imm (.tuple (.str r.word::ds))),none,none,none,none,none,none,none] [fd] 0) rfl ?_;walk_at"xs";refine aD (ay (j:=0) (xs:=.str r.word::ds) rfl) ?_;walk_at"xs"
   by_cases z:r.word = "turns"
   .rw[decide_eq_true z];walk_at"xs";refine aA (fun _=>?_) (fun _=>?_)
    .walk_at"xs";exact J _ ⟨.two,trivial,rfl⟩
    .walk_at"xs";exact J0
   .rw[decide_eq_false z];walk_at"xs";exact J0
  clear hr;rintro _ ⟨r,hr,rfl⟩;walk_at"xn";refine fh (pQ ?_);refine x_c ?_;refine bJ ?_;walk_at"xn";refine fh ?_;refine x_JS (fun m=>∃(mo:Nat) (fd:List PyData),mo≤12/\TapeD (3000*i+2431) fd/\m=MSt.mk [some (.imm (.list (ns.map .int))),some (.obj 0),some (.imm (.list (menu35.map lnD))),none,some (.imm (.tuple [.tuple [.int h.a,.int h.b],.tuple (h.ss.map Srv.d),.bool h.mv])),some (.imm r.d),some (.imm (.int (mo:Int))),none,none,none,none,none,none] [fd] 0) (fun N J=>?_) ?_
  .walk_at"xs";rw[List.length_map];have hal:(M3.allR h.rs).length≤2401:=ip (by rw[h.rsl];exact n4) ho.r6
   by_cases z:(h.ss.length:Int)=1
   .rw[decide_eq_true z];walk_at"xs";exact J _ ⟨12,fd,by decide,hf.mono (by omega),rfl⟩
   .rw[decide_eq_false z];walk_at"xs";refine⟨h,rfl,ho,?_⟩;walk_at"xx";refine aA (fun _=>?_) (fun _=>?_)
    .walk_at"xs";refine⟨fd,_,_,rfl,hf,by omega,by decide,by decide,fun q fd hq0 hq1 hf=>?_⟩;walk_at"xx";refine aA (fun _=>?_) (fun _=>?_)
     .walk_at"xs";exact J _ ⟨12,fd,by decide,hf.mono (by omega),rfl⟩
     .walk_at"xs";exact J _ ⟨8,fd,by decide,hf.mono (by omega),rfl⟩
    .walk_at"xs";exact J _ ⟨8,fd,by decide,hf.mono (by omega),rfl⟩
  clear hf;rintro _ ⟨mo,fd,hmo,hf,rfl⟩;walk_at"xn";refine fh ?_;refine x_JS (fun m=>∃(mo:Nat),mo≤12/\m=MSt.mk [some (.imm (.list (ns.map .int))),some (.obj 0),some (.imm (.list (menu35.map lnD))),none,some (.imm (.tuple [.tuple [.int h.a,.int h.b],.tuple (h.ss.map Srv.d),.bool h.mv])),some (.imm r.d),some (.imm (.int (mo:Int))),none,none,none,none,none,none] [fd] 0) (fun N J=>?_) ?_
  .walk_at"xs";refine aA (fun _=>?_) (fun _=>?_)
   .walk_at"xs";exact J _ ⟨4,by decide,rfl⟩
   .walk_at"xs";exact J _ ⟨mo,hmo,rfl⟩
  clear hmo;rintro _ ⟨mo,hmo,rfl⟩;walk_at"xx";refine⟨fd,_,_,rfl,hf,by omega,by omega,by omega,fun tu fd ht0 ht1 hf=>?_⟩;obtain⟨tu,rfl⟩:=Int.eq_ofNat_of_zero_le ht0;walk_at"xn";refine bJ ?_;walk_at"xn";refine fh ?_;refine x_JS (fun m=>m=MSt.mk [some (.imm (.list (ns.map .int))),some (.obj 0),some (.imm (.list (menu35.map lnD))),none,some (.imm (.tuple [.tuple [.int h.a,.int h.b],.tuple (h.ss.map Srv.d),.bool h.mv])),some (.imm r.d),some (.imm (.int (mo:Int))),some (.imm (.int (tu:Int))),some (.imm (.list (natD [tu,mo-tu,0,tu]))),none,none,none,none] [fd] 0) (fun N J=>?_) ?_
  .walk_at"xs";refine J _ ?_;rw[show(mo:Int)-(tu:Int)=((mo-tu:Nat):Int) by omega];rfl
  rintro _ rfl;walk_at"xn";refine fh ?_;refine x_JS (fun m=>∃(cs:List Nat) (fd:List PyData),(∀c∈cs,c≤12)/\cs.length≤4/\TapeD (3000*i+2440) fd/\m=MSt.mk [some (.imm (.list (ns.map .int))),some (.obj 0),some (.imm (.list (menu35.map lnD))),none,some (.imm (.tuple [.tuple [.int h.a,.int h.b],.tuple (h.ss.map Srv.d),.bool h.mv])),some (.imm r.d),some (.imm (.int (mo:Int))),some (.imm (.int (tu:Int))),some (.imm (.list (natD cs))),none,none,none,none] [fd] 0) (fun N J=>?_) ?_
  .have J0:=J _ ⟨[tu,mo-tu,0,tu],fd,uE (by omega) hmo,(by show 4≤4;omega),hf.mono (by omega),rfl⟩;obtain⟨ds,ed⟩:∃ds,r.d = .tuple (.str r.word::ds):=by cases r<;>exact⟨_,rfl⟩
   rw[ed]at J0⊢;walk_at"xs";rw[List.length_map]
   by_cases z:(h.ss.length:Int)=3
   .rw[decide_eq_true z];walk_at"xs";refine⟨h,rfl,ho,?_⟩;walk_at"xx";rw[List.length_map]
    by_cases z:((M3.allR h.rs).length:Int)=8
    .rw[decide_eq_true z];walk_at"xs";refine aD (ay (j:=0) (xs:=.str r.word::ds) rfl) ?_;walk_at"xs"
     by_cases z:r.word = "turns"
     .rw[decide_eq_true z];walk_at"xs";exact J0
     .rw[decide_eq_false z];walk_at"xs";rw[if_pos (c:=(!false)=true) rfl];walk_at"xs";refine⟨fd,_,_,rfl,hf,by omega,by decide,by decide,fun q fd hq0 hq1 hf=>?_⟩;walk_at"xx";refine aA (fun _=>?_) (fun _=>?_)
      .walk_at"xs";refine⟨fd,_,_,rfl,hf,by omega,by decide,by decide,fun q fd hq0 hq1 hf=>?_⟩;obtain⟨q,rfl⟩:=Int.eq_ofNat_of_zero_le hq0;walk_at"xx";refine J _ ⟨[9+q],fd,fun c hc=>(by have:=List.mem_singleton.mp hc;omega),(by show 1≤4;omega),hf.mono (by omega),?_⟩;rw[ed];rfl
      .walk_at"xs";refine J _ ⟨[tu,mo-tu,0,tu],fd,uE (by omega) hmo,(by show 4≤4;omega),hf.mono (by omega),?_⟩;rw[ed]
    .rw[decide_eq_false z];walk_at"xs";exact J0
   .rw[decide_eq_false z];walk_at"xs";exact J0
  clear hf;rintro _ ⟨cs,fd,hcs,hcl,hf,rfl⟩;walk_at"xn";refine fh ?_;refine x_JS (fun m=>∃(h:Hall) (r:Rule) (S:Nat) (cs:List Nat) (a6 a7:Option L2.R) (fd:List PyData),h.Ok/\r.Ok h/\OfS h S/\(∀c∈cs,c≤12)/\cs.length≤4/\TapeD (3000*i+2450) fd/\m=MSt.mk [some (.imm (.list (ns.map .int))),some (.obj 0),some (.imm (.list (menu35.map lnD))),none,some (.imm (.tuple [.tuple [.int h.a,.int h.b],.tuple (h.ss.map Srv.d),.bool h.mv])),some (.imm r.d),a6,a7,some (.imm (.list (natD cs))),none,none,none,none] [fd] 0) (fun N J=>?_) ?_
  .walk_at"xs";refine⟨fd,_,_,rfl,hf,by omega,by decide,by decide,fun q fd hq0 hq1 hf=>?_⟩;walk_at"xx";refine aA (fun _=>?_) (fun _=>?_)
   .walk_at"xs";refine⟨fd,_,_,rfl,hf,by omega,by decide,by decide,fun q fd hq0 hq1 hf=>?_⟩;walk_at"xx";exact J _ ⟨nU (decide (q=0)),.random,8,[6,0],_,_,fd,wx _,trivial,uQ _,by decide,by decide,hf.mono (by omega),rfl⟩
   .walk_at"xs";exact J _ ⟨h,r,S,cs,_,_,fd,ho,hr,hS,hcs,hcl,hf.mono (by omega),rfl⟩
  clear hf hcs hcl hr hS ho n1 n4;clear h r S cs;rintro _ ⟨h,r,S,cs,a6,a7,fd,ho,hr,hS,hcs,hcl,hf,rfl⟩;walk_at"xn";refine fh (pQ (qv (gX ?_)));walk_at"xn";have hdu:∀c∈cs,DuOk h r c:=fun c hc=>⟨ho,hr,hS.rest ho,hcs c hc,hS.pow ho (hcs c hc)⟩;have hmn:∀c∈cs,MnOk h r c:=fun c hc=>JL ho hr (hS.rest ho) (by have:=hcs c hc;omega) (Nat.lt_trans (hS.pow ho (hcs c hc)) (by decide));refine ai (MSt.mk [some (.imm (.list (ns.map .int))),some (.obj 0),some (.imm (.list (menu35.map lnD))),none,some (.imm (.tuple [.tuple [.int h.a,.int h.b],.tuple (h.ss.map Srv.d),.bool h.mv])),some (.imm r.d),a6,a7,some (.imm (.list (natD cs))),some (.at 1 []),none,none,none] [fd,[.dict []]] 0) rfl ?_;walk_at"xs";refine bu (fun z m=>∃(a10 a11 a12:Option L2.R) (ks:List Nat),m=MSt.mk [some (.imm (.list (ns.map .int))),some (.obj 0),some (.imm (.list (menu35.map lnD))),none,some (.imm (.tuple [.tuple [.int h.a,.int h.b],.tuple (h.ss.map Srv.d),.bool h.mv])),some (.imm r.d),a6,a7,some (.imm (.list (natD cs))),some (.at 1 []),a10,a11,a12] [fd,[.dict (lfKV (knD h r ks))]] 0/\ks.length≤z) ⟨none,none,none,[],rfl,Nat.le_refl _⟩ ?_ ?_
  .rintro z d m ez hnz ⟨a10,a11,a12,ks,rfl,hks⟩ D2 hD2 hR2;obtain⟨c,ec,rfl,hz⟩:=gmap ez;have hc:=List.mem_of_getElem? ec;have hcm:=hcs c hc;refine x_gM ?_;refine fh ?_;refine x_JS (fun m=>∃ks:List Nat,c∈ks/\ks.length≤z+1/\m=MSt.mk [some (.imm (.list (ns.map .int))),some (.obj 0),some (.imm (.list (menu35.map lnD))),none,some (.imm (.tuple [.tuple [.int h.a,.int h.b],.tuple (h.ss.map Srv.d),.bool h.mv])),some (.imm r.d),a6,a7,some (.imm (.list (natD cs))),some (.at 1 []),some (.imm (.int (c:Int))),a11,a12] [fd,[.dict (lfKV (knD h r ks))]] 0) (fun N J=>?_) ?_
   .walk_at"xs";refine Lr (kvs:=knD h r ks) ⟨rfl,rfl⟩ (by unfold oneK;rw[yf];rfl) ?_;rw[pg]
    by_cases hk:c∈ks
    .rw[if_pos hk];walk_at"xs";refine gg ?_;walk_at"xs";exact J _ ⟨ks,hk,by omega,rfl⟩
    .rw[if_neg hk];walk_at"xs";refine iW ?_;walk_at"xs";refine⟨h,r,c,rfl,hdu c hc,?_⟩;walk_at"xx";refine yR ?_;refine⟨_,lfKV (knD h r ks),rfl,rfl,by rw[iR];exact yf _ _ _,rfl,by unfold lfKV knD;rw[List.length_map,List.length_map,sizeLine_eq];omega,?_⟩;rw[pz (by rfl) (yf _ _ _),zT h r c ks hk];exact J _ ⟨ks++[c],List.mem_append_right _ (List.mem_singleton.mpr rfl),by rw[List.length_append];simp only[List.length_cons,List.length_nil];omega,rfl⟩
   rintro _ ⟨ks,hk,hkl,rfl⟩;have D:=hdu c hc;have fin:=D.fine;walk_at"xx";refine⟨h,r,c,rfl,ho,hr,hmn c hc,by omega,?_⟩;walk_at"xn";refine bJ ?_;walk_at"xx";obtain⟨tx,htx⟩:∃tx,(mnD h r c).shown=tx:=⟨_,rfl⟩;refine xu fin rfl (by decide) (by decide) ?_;rw[htx];walk_at"xs";refine⟨knD h r ks,mnD h r c,⟨rfl,rfl⟩,by unfold oneK;rw[yf];rfl,by rw[pg,if_pos hk],?_⟩;walk_at"xs";refine xu fin rfl (by decide) (by decide) ?_;rw[htx];walk_at"xs";rw[decide_eq_true (rfl:tx=tx)];refine gg ?_;have P1:=D.p0 c;have b1:=ho.b1;have b2:=ho.b2;have a2:=ho.a2;have frB:∀y:Int,y.natAbs<10^76->FrOk (nfP y ((botH h^c:Nat):Int)).1 (nfP y ((botH h^c:Nat):Int)).2:=fun y hy=>nq P1 hy (by rw[Int.natAbs_natCast];exact Nat.lt_trans D.b (by decide));have eAdd:∀a b:Int,addF (nfP a ((botH h^c:Nat):Int)).1 (nfP a ((botH h^c:Nat):Int)).2 (nfP b ((botH h^c:Nat):Int)).1 (nfP b ((botH h^c:Nat):Int)).2=nf (a+b) ((botH h^c:Nat):Int):=fun a b=>by unfold addF;rw[dL,lL P1,<-dL]
   have cS:=D.cn .served;have cA:=D.cn .away;have cM:=D.mn;have up:∀{z:Nat},z<10^70->z<10^76:=fun hz=>Nat.lt_trans hz (by decide);have two:(cntW h r .served c+cntW h r .away c).natAbs<10^76:=Nat.lt_trans (show _<2*10^70 by omega) (by decide);dsimp only[mnD];walk_at"xs";refine⟨(nfP (cntW h r .served c) ((botH h^c:Nat):Int)).1,(nfP (cntW h r .served c) ((botH h^c:Nat):Int)).2,(nfP (cntW h r .away c) ((botH h^c:Nat):Int)).1,(nfP (cntW h r .away c) ((botH h^c:Nat):Int)).2,rfl,frB _ (up cS.2),frB _ (up cA.2),?_⟩;rw[eAdd];walk_at"xx";refine⟨(nfP (jd h r c) ((botH h^c:Nat):Int)).1,(nfP (jd h r c) ((botH h^c:Nat):Int)).2,(nfP (cntW h r .served c+cntW h r .away c) ((botH h^c:Nat):Int)).1,(nfP (cntW h r .served c+cntW h r .away c) ((botH h^c:Nat):Int)).2,rfl,frB _ (Nat.lt_trans cM (by decide)),frB _ two,?_⟩;rw[eAdd];walk_at"xn";refine bJ ?_;walk_at"xx";refine⟨(c:Int),1,(h.a:Int),(h.b:Int),rfl,⟨Nat.lt_of_le_of_lt (show((c:Int)).natAbs≤12 by omega) (by decide),by decide,by decide⟩,⟨Nat.lt_of_le_of_lt (show((h.a:Int)).natAbs≤1000000 by omega) (by decide),Nat.lt_of_le_of_lt (show((h.b:Int)).natAbs≤1000000 by omega) (by decide),by omega⟩,?_⟩;have ew:nf (jd h r c+(cntW h r .served c+cntW h r .away c)) ((botH h^c:Nat):Int)=mulF (c:Int) 1 (h.a:Int) (h.b:Int):=by
    unfold mulF;rw[dL,D.whole,<-dL]
   rw[<-ew];obtain⟨u,v,eu⟩:∃u v:Int,nf (jd h r c+(cntW h r .served c+cntW h r .away c)) ((botH h^c:Nat):Int) = .tuple [.int u,.int v]:=⟨_,_,rfl⟩;rw[eu];walk_at"xx";refine x_ne rfl rfl rfl rfl ?_;have eqt:PyData.eqv (.tuple [.int u,.int v]) (.tuple [.int u,.int v])=true:=by
    have hi:∀x:Int,PyData.eqv (.int x) (.int x)=true:=fun x=>by simp only[PyData.eqv,beq_self_eq_true]
    simp only[PyData.eqv,PyData.eqvAll,hi,Bool.and_true,beq_self_eq_true,Bool.and_self]
   rw[eqt];walk_at"xs";refine gg ?_;walk_at"xs";exact hD2 _ ⟨_,_,_,ks,rfl,hkl⟩
  .rintro m hnz ⟨a10,a11,a12,ks,rfl,hks⟩;exact hD1 _ ⟨_,_,_,_,_,_,_,_,_,_,fd,_,rfl,hf.mono (by omega)⟩
 .rintro m n ⟨a3,a4,a5,a6,a7,a8,a9,a10,a11,a12,fd,L,rfl,hf⟩;walk_at"xs";exact k
end
theorem ar_{us:List Value}{n:Nat}(hl:us.length=n):us=(List.range n).map fun i=>us.getD i .none:=List.ext_getElem (by rw[hl,List.length_map,List.length_range]) fun i h1 h2=>by
 rw[List.getElem_map,List.getElem_range,List.getD_eq_getElem?_getD,List.getElem?_eq_getElem h1];rfl
local macro_rules | `(tactic| walk_at "dm") => `(tactic| exact fun f fd F => F.binds fun _ _ _ _ _ _ us hl => by rw [ar_ hl]; rfl)
theorem Jk{w:World}{K:PySem.W.Frag}{h:Heap}{mg:Str->Option Value}{fa:Addr}(X:K.In h)(G:h.Ns mainGlobals mg)(hfa:mg "law" = some (.ref fa))(dgreatest_divisor:DefK K "greatest_divisor" cF)(dfraction_of:DefK K "fraction_of" fj)(dtaken_off:DefK K "taken_off" ir)(ddivided:DefK K "divided" lp)(dis_less:DefK K "is_less" mq)(don_one_bottom:DefK K "on_one_bottom" cG)(dplace_of_lines:DefK K "place_of_lines" db)(dfirst_shortest:DefK K "first_shortest" dh)(dwait_at:DefK K "wait_at" lM)(dfirst_quickest:DefK K "first_quickest" dm)(dsent_to:DefK K "sent_to" ll)(dfirst_stand:DefK K "first_stand" fm)(dall_orders:DefK K "all_orders" d5)(dwith_more:DefK K "with_more" iQ)(dcome_to:DefK K "come_to" l8)(ddone_at:DefK K "done_at" lZ)(dnext_shift:DefK K "next_shift" gx)(dsettled:DefK K "settled" l7)(dturn_behind:DefK K "turn_behind" fu)(dline_of:DefK K "line_of" md)(dmoved_on:DefK K "moved_on" jR)(dmove_shares:DefK K "move_shares" dw)(dweights_behind:DefK K "weights_behind" de)(dmeans_of:DefK K "means_of" ib)(d_law_tape:DefK K "_law_tape" iJ)(d_law_draw:DefK K "_law_draw" im)(d_law_cut:DefK K "_law_cut" jW)(d_law_plus:DefK K "_law_plus" ik)(d_law_times:DefK K "_law_times" gl)(d_law_parts:DefK K "_law_parts" dl)(d_law_hall:DefK K "_law_hall" fT)(d_law_all_lines:DefK K "_law_all_lines" ck)(d_law_rule:DefK K "_law_rule" fV)(d_law_orders:DefK K "_law_orders" dt)(d_law_soonest:DefK K "_law_soonest" fb)(d_law_sent:DefK K "_law_sent" ix)(d_law_more:DefK K "_law_more" iL)(d_law_evened:DefK K "_law_evened" fo)(d_law_asked:DefK K "_law_asked" gq)(d_law_behind:DefK K "_law_behind" fy)(d_law_first:DefK K "_law_first" d9)(d_law_due:DefK K "_law_due" jE)(dlaw:DefK K "law" slaw)(zlen:PySem.W.nsIn K mainGlobals "len" = some none)(zabs:PySem.W.nsIn K mainGlobals "abs" = some none)(zrange:PySem.W.nsIn K mainGlobals "range" = some none)(zlist:PySem.W.nsIn K mainGlobals "list" = some none)(ztuple:PySem.W.nsIn K mainGlobals "tuple" = some none)(zint:PySem.W.nsIn K mainGlobals "int" = some none)(zsum:PySem.W.nsIn K mainGlobals "sum" = some none)(zzip:PySem.W.nsIn K mainGlobals "zip" = some none)(zmin:PySem.W.nsIn K mainGlobals "min" = some none)(zmax:PySem.W.nsIn K mainGlobals "max" = some none)(zenumerate:PySem.W.nsIn K mainGlobals "enumerate" = some none)(zrepr:PySem.W.nsIn K mainGlobals "repr" = some none)(cWHOLE_TURN:ConK K "WHOLE_TURN" (.tuple (([1,1]:List Int).map .int)))    :
  ∃fd:FuncData,(∀(s:Shared) (v:Value),BindsTo s fd ⟨[v],[]⟩ [("_law_script",v)])/\∀base:Heap,K.In base->base.Ns mainGlobals mg->FnOk l.prog w K mg base CX0 9 fa fd ["_law_script"] (spOf ⟨K,w⟩ 1 yp):=by
 obtain⟨f,fd,a,F⟩:=dlaw.ex;have e:=hfa.symm.trans (PySem.W.mg_of X G a);cases e;have T:Bl K mg:=⟨PySem.W.mg_none_of X G zlen,PySem.W.mg_none_of X G zabs,PySem.W.mg_none_of X G zrange,PySem.W.mg_none_of X G zlist,PySem.W.mg_none_of X G ztuple,PySem.W.mg_none_of X G zint,PySem.W.mg_none_of X G zsum,PySem.W.mg_none_of X G zzip,PySem.W.mg_none_of X G zmin,PySem.W.mg_none_of X G zmax,PySem.W.mg_none_of X G zenumerate,PySem.W.mg_none_of X G zrepr,cWHOLE_TURN.m X G⟩;have Dgreatest_divisor:=dgreatest_divisor.m (ps:=["one","other"]) X G (by walk_at"dm");have Dfraction_of:=dfraction_of.m (ps:=["top","bottom"]) X G (by walk_at"dm");have Dtaken_off:=dtaken_off.m (ps:=["one","other"]) X G (by walk_at"dm");have Ddivided:=ddivided.m (ps:=["one","other"]) X G (by walk_at"dm");have Dis_less:=dis_less.m (ps:=["one","other"]) X G (by walk_at"dm");have Don_one_bottom:=don_one_bottom.m (ps:=["pairs"]) X G (by walk_at"dm");have Dplace_of_lines:=dplace_of_lines.m (ps:=["hall","lines"]) X G (by walk_at"dm");have Dfirst_shortest:=dfirst_shortest.m (ps:=["lines","order"]) X G (by walk_at"dm");have Dwait_at:=dwait_at.m (ps:=["hall","lines","line"]) X G (by walk_at"dm");have Dfirst_quickest:=dfirst_quickest.m (ps:=["hall","lines","order"]) X G (by walk_at"dm");have Dsent_to:=dsent_to.m (ps:=["hall","rule","stand","order"]) X G (by walk_at"dm");have Dfirst_stand:=dfirst_stand.m (ps:=["hall"]) X G (by walk_at"dm");have Dall_orders:=dall_orders.m (ps:=["hall"]) X G (by walk_at"dm");have Dwith_more:=dwith_more.m (ps:=["lines","line","more"]) X G (by walk_at"dm");have Dcome_to:=dcome_to.m (ps:=["hall","lines","line"]) X G (by walk_at"dm");have Ddone_at:=ddone_at.m (ps:=["lines","line"]) X G (by walk_at"dm");have Dnext_shift:=dnext_shift.m (ps:=["hall","lines"]) X G (by walk_at"dm");have Dsettled:=dsettled.m (ps:=["hall","lines"]) X G (by walk_at"dm");have Dturn_behind:=dturn_behind.m (ps:=["hall","rule","turn"]) X G (by walk_at"dm");have Dline_of:=dline_of.m (ps:=["hall","rule","stand","move"]) X G (by walk_at"dm");have Dmoved_on:=dmoved_on.m (ps:=["hall","rule","stand","move"]) X G (by walk_at"dm");have Dmove_shares:=dmove_shares.m (ps:=["hall"]) X G (by walk_at"dm");have Dweights_behind:=dweights_behind.m (ps:=["hall","rule","weights"]) X G (by walk_at"dm");have Dmeans_of:=dmeans_of.m (ps:=["hall","rule","turns"]) X G (by walk_at"dm");have D_law_tape:=d_law_tape.m (ps:=["_law_script"]) X G (by walk_at"dm");have D_law_draw:=d_law_draw.m (ps:=["_law_tape_here","_law_many"]) X G (by walk_at"dm");have D_law_cut:=d_law_cut.m (ps:=["_law_top","_law_bottom"]) X G (by walk_at"dm");have D_law_plus:=d_law_plus.m (ps:=["_law_one","_law_other"]) X G (by walk_at"dm");have D_law_times:=d_law_times.m (ps:=["_law_one","_law_other"]) X G (by walk_at"dm");have D_law_parts:=d_law_parts.m (ps:=["_law_tape_here","_law_many"]) X G (by walk_at"dm");have D_law_hall:=d_law_hall.m (ps:=["_law_tape_here","_law_menu"]) X G (by walk_at"dm");have D_law_all_lines:=d_law_all_lines.m (ps:=["_law_hall_here"]) X G (by walk_at"dm");have D_law_rule:=d_law_rule.m (ps:=["_law_tape_here","_law_hall_here"]) X G (by walk_at"dm");have D_law_orders:=d_law_orders.m (ps:=["_law_many"]) X G (by walk_at"dm");have D_law_soonest:=d_law_soonest.m (ps:=["_law_hall_here","_law_lines","_law_order"]) X G (by walk_at"dm");have D_law_sent:=d_law_sent.m (ps:=["_law_hall_here","_law_rule_here","_law_stand","_law_order"]) X G (by walk_at"dm");have D_law_more:=d_law_more.m (ps:=["_law_lines","_law_k","_law_many"]) X G (by walk_at"dm");have D_law_evened:=d_law_evened.m (ps:=["_law_hall_here","_law_lines"]) X G (by walk_at"dm");have D_law_asked:=d_law_asked.m (ps:=["_law_hall_here","_law_rule_here","_law_stand","_law_order"]) X G (by walk_at"dm");have D_law_behind:=d_law_behind.m (ps:=["_law_hall_here","_law_rule_here","_law_stand"]) X G (by walk_at"dm");have D_law_first:=d_law_first.m (ps:=["_law_hall_here"]) X G (by walk_at"dm");have D_law_due:=d_law_due.m (ps:=["_law_hall_here","_law_rule_here","_law_turns"]) X G (by walk_at"dm");refine⟨fd,fun s v=>?_,fun base _ _=>?_⟩
 .obtain⟨oc,od,kV,doc,pm,an,cdv,ct,osl,rfl,lk,hcd⟩:=F.ex;exact .of_eq rfl
 .have Ggreatest_divisor:=g9 (P:=l.prog) (w:=w) (base:=base) T Dgreatest_divisor;have Gfraction_of:=lR (P:=l.prog) (w:=w) (base:=base) T Dfraction_of Ggreatest_divisor;have Gtaken_off:=pv (P:=l.prog) (w:=w) (base:=base) T Dtaken_off Gfraction_of;have Gdivided:=xt (P:=l.prog) (w:=w) (base:=base) T Ddivided Gfraction_of;have Gis_less:=u9 (P:=l.prog) (w:=w) (base:=base) T Dis_less;have Gon_one_bottom:=jM (P:=l.prog) (w:=w) (base:=base) T Don_one_bottom Ggreatest_divisor;have Gplace_of_lines:=je (P:=l.prog) (w:=w) (base:=base) T Dplace_of_lines;have Gfirst_shortest:=jh (P:=l.prog) (w:=w) (base:=base) T Dfirst_shortest;have Gwait_at:=vC (P:=l.prog) (w:=w) (base:=base) T Dwait_at;have Gfirst_quickest:=jf (P:=l.prog) (w:=w) (base:=base) T Dfirst_quickest Gwait_at Gis_less;have Gsent_to:=xm (P:=l.prog) (w:=w) (base:=base) T Dsent_to Gfirst_shortest Gfirst_quickest Gplace_of_lines;have Gfirst_stand:=ml (P:=l.prog) (w:=w) (base:=base) T Dfirst_stand;have Gall_orders:=om (P:=l.prog) (w:=w) (base:=base) T Dall_orders;have Gwith_more:=qb (P:=l.prog) (w:=w) (base:=base) T Dwith_more;have Gcome_to:=v6 (P:=l.prog) (w:=w) (base:=base) T Dcome_to Gwith_more;have Gdone_at:=uH (P:=l.prog) (w:=w) (base:=base) T Ddone_at Gwith_more;have Gnext_shift:=mE (P:=l.prog) (w:=w) (base:=base) T Dnext_shift;have Gsettled:=vI (P:=l.prog) (w:=w) (base:=base) T Dsettled Gnext_shift Gwith_more;have Gturn_behind:=l6 (P:=l.prog) (w:=w) (base:=base) T Dturn_behind;have Gline_of:=vk (P:=l.prog) (w:=w) (base:=base) T Dline_of Gsent_to;have Gmoved_on:=t3 (P:=l.prog) (w:=w) (base:=base) T Dmoved_on Gline_of Gcome_to Gturn_behind Gdone_at Gsettled;have Gmove_shares:=mf (P:=l.prog) (w:=w) (base:=base) T Dmove_shares Gall_orders Gdivided Gtaken_off;have Gweights_behind:=jk (P:=l.prog) (w:=w) (base:=base) T Dweights_behind Gmove_shares Gon_one_bottom Gmoved_on;have Gmeans_of:=tp (P:=l.prog) (w:=w) (base:=base) T Dmeans_of Gfirst_stand Gweights_behind Gfraction_of;have G_law_tape:=o3 (P:=l.prog) (w:=w) (base:=base) T D_law_tape;have G_law_draw:=oQ (P:=l.prog) (w:=w) (base:=base) T D_law_draw;have G_law_cut:=t9 (P:=l.prog) (w:=w) (base:=base) T D_law_cut;have G_law_plus:=pK (P:=l.prog) (w:=w) (base:=base) T D_law_plus G_law_cut;have G_law_times:=nk (P:=l.prog) (w:=w) (base:=base) T D_law_times G_law_cut;have G_law_parts:=oh (P:=l.prog) (w:=w) (base:=base) T D_law_parts G_law_draw G_law_cut;have G_law_hall:=o7 (P:=l.prog) (w:=w) (base:=base) T D_law_hall G_law_draw G_law_parts;have G_law_all_lines:=jg (P:=l.prog) (w:=w) (base:=base) T D_law_all_lines;have G_law_rule:=pC (P:=l.prog) (w:=w) (base:=base) T D_law_rule G_law_draw G_law_all_lines;have G_law_orders:=lj (P:=l.prog) (w:=w) (base:=base) T D_law_orders;have G_law_soonest:=kj (P:=l.prog) (w:=w) (base:=base) T D_law_soonest;have G_law_sent:=qc (P:=l.prog) (w:=w) (base:=base) T D_law_sent G_law_all_lines G_law_soonest;have G_law_more:=qg (P:=l.prog) (w:=w) (base:=base) T D_law_more;have G_law_evened:=lr (P:=l.prog) (w:=w) (base:=base) T D_law_evened G_law_more;have G_law_asked:=m8 (P:=l.prog) (w:=w) (base:=base) T D_law_asked G_law_sent G_law_evened G_law_more;have G_law_behind:=lY (P:=l.prog) (w:=w) (base:=base) T D_law_behind G_law_orders G_law_asked G_law_cut G_law_plus G_law_more G_law_evened;have G_law_first:=ow (P:=l.prog) (w:=w) (base:=base) T D_law_first;have G_law_due:=sX (P:=l.prog) (w:=w) (base:=base) T D_law_due G_law_first G_law_behind G_law_times G_law_plus;exact JZ T F G_law_tape G_law_hall G_law_rule G_law_all_lines G_law_draw G_law_due Gmeans_of G_law_plus G_law_times
theorem walk{q:Program}{loose:List Str}{XP:(Str->Option Value)->Heap->Prop}{YP:World->Heap->Prop}{d:DefRec}{K:Params->PySem.W.Frag}(hq:PyProof.Rows.importsNone q=true)(hn:l.most=some 63)(hdf:d.params.defaults=[])
  (hY:∀(w:World) (h:Heap),YP w h->(K w.params).In h)
  (F:∀(w:World) (mg:Str->Option Value) (fa:Addr) (h:Heap),(K w.params).In h->h.Ns mainGlobals mg->mg d.name=some (.ref fa) ->
   ∃fd:FuncData,(∀(s:Shared) (u:Value),BindsTo s fd ⟨[u],[]⟩ [("_law_script",u)])/\∀base:Heap,(K w.params).In base->base.Ns mainGlobals mg->FnOk l.prog w (K w.params) mg base CX0 9 fa fd ["_law_script"] (spOf ⟨K w.params,w⟩ 1 yp)) :
  PySem.W.WalkO q loose XP YP l.row.toRowW d [] (fun f vs=>PySem.call f vs) :=
 L2.CB (n:=63) (k:=9) (x := "_law_script") (CX:=fun _=>CX0) (sp:=fun w=>spOf ⟨K w.params,w⟩ 1 yp) hq hn (by decide) hdf ⟨rfl,by decide,by decide,rfl⟩ hY F
  (fun w H a ns hl hO hS=>⟨[.imm (.list (ns.map .int))],[],fun r _=>r = .imm (.bool true),rfl,List.nodup_nil,.imm (s9 hO hS) .nil,⟨ns,rfl,hl,rfl⟩,fun r outs v H' k _ rr _=>by cases k;exact jX (show Den ⟨K w.params,w⟩ H' (.bool true) v from rr)⟩) fun _ _ _ _ _ z=>z
end K
namespace PySem.W.Fast
def tw657518801217612684:=0
def tw14401136626781338440:=0
def tw17686928359338186343:=0
def tw15106358898784560207:=0
def tw13498880411465703792:=0
def tw15135554097731166446:=0
def tw15474227220255843626:=0
def tw18406716290706044923:=0
def tw8693561325493809250:=0
def tw14775454266330994938:=0
def tw16478204119226192867:=0
def tw8384700435583307170:=0
def tw14613447657905246304:=0
def tw10354938399465752830:=0
def tw15029404842714620409:=0
def tw13008676095323558992:=0
def tw7365413413365216422:=0
def tw14663985757785113904:=0
def tw14741752831681908047:=0
def tw7700969655236853011:=0
def tw8770584137134341144:=0
def tw18314950354976130663:=0
def tw13976164854362582392:=0
def tw1305251027569567704:=0
def tw18295890286372523358:=0
def tw1568642925969292662:=0
def tw16131224506185125290:=0
def tw16086819235319874495:=0
def tw3529664120170406827:=0
def tw3831567703000746699:=0
def tw369341241592438397:=0
def tw14313927246230501296:=0
def tw11944620042723482574:=0
def tw8772434867048784023:=0
def tw5685614257324909515:=0
def tw12164446833328456354:=0
def tw5712665720347213326:=0
def tw4192583429451962649:=0
def tw14160989446765543347:=0
def tw7681520174939906024:=0
def tw13033229882816035797:=0
def tw17814290477782054716:=0
def tw3637558078998599898:=0
def tw8584102886783340320:=0
def tw5140990394473850504:=0
def tw16753404178554501606:=0
def tw10196695755176301665:=0
def tw1017984818228913779:=0
def tw13797846324878969492:=0
def tw7265620568537141474:=0
def tw12630814707791163893:=0
def tw9760822032434025142:=0
def tw9136283550690386988:=0
def tw4589857091926291291:=0
def tw12272363863156350422:=0
def tw12747775123361645534:=0
def tw2968341004083245284:=0
def tw8436691736805721534:=0
def tw433549395011594420:=0
def tw3814043206149234722:=0
def tw1284534574585578494:=0
def tw10694100892871902997:=0
def tw15796246369343608495:=0
def tw4862689652315493439:=0
def tw17191183615175781546:=0
def tw11544877059509144430:=0
def tw9662656200565617018:=0
def tw16311964610489611109:=0
def tw17616892043892765562:=0
def tw5810363894458197574:=0
def tw2114571128292693273:=0
def tw6684155396338032137:=0
def tw3781901964434866691:=0
def tw677006681593304674:=0
def tw17185440127869447301:=0
def tw17439570680079448496:=0
def tw15930977649630795091:=0
def tw9280113561048852472:=0
def tw17320597183103767887:=0
def tw16886256397918866693:=0
def tw12472285650082412322:=0
def tw1906789592897927061:=0
def tw17499404604564256192:=0
def tw9331857880488256587:=0
def tw376615012107836388:=0
def tw10071295475553877945:=0
def tw14507406333386935232:=0
def tw2837613517284579981:=0
def tw14438672611411215477:=0
def tw12860487152231903463:=0
def tw14007877154191939147:=0
def tw3474951316429722575:=0
def tw16200009247582963685:=0
def tw4490957229380109202:=0
def tw12228970097486840296:=0
def tw11767794787553726705:=0
def tw7807387546995339120:=0
def tw9134798485374593856:=0
def tw11505016369408205137:=0
def tw16190690796977597532:=0
def tw4974782475701120498:=0
def tw17929424002940825500:=0
def tw84436731434371982:=0
def tw13024561803908614507:=0
def tw10763181053492405091:=0
def tw2851318030078300989:=0
def tw8381137883658316402:=0
def tw4626522630808247787:=0
def tw11480296720172191774:=0
def tw5951128808158339905:=0
def tw11245817806181886768:=0
def tw7113280453581778832:=0
def tw18146289997729508618:=0
def tw12074817033310142799:=0
def tw17738914699671733589:=0
def tw3117319772638660203:=0
def tw10481561938703219162:=0
end PySem.W.Fast
open PySem PySem.W PyProof.Rows
local macro_rules | `(tactic| walk_at "dk") => `(tactic| (refine' L2.DefK.of ?a ?l ?c ?k; (case a => k_is); (case l => k_is); (case c => k_is); (case k => k_is)))
set_option maxRecDepth 100000 in
set_option maxHeartbeats 0 in
theorem PySem.Challenge.cw_shorterline_k35_means_of_turns_holds : PySem.Challenge.rw_shorterline_k35_means_of_turns.Holds := by
 w_on;o_law;k_head;(case hw=>w_witness2)
 k_fill
 refine K.walk (l:=PySem.Challenge.rw_shorterline_k35_means_of_turns) ?hq rfl rfl (fun w h Y=>PySem.W.kIn_of Y) ?F
 case hq=>kernel_rfl
 case F =>
  intro w mg fa h KX G hmg;refine' K.Jk KX G hmg ?dgreatest_divisor ?dfraction_of ?dtaken_off ?ddivided ?dis_less ?don_one_bottom ?dplace_of_lines ?dfirst_shortest ?dwait_at ?dfirst_quickest ?dsent_to ?dfirst_stand ?dall_orders ?dwith_more ?dcome_to ?ddone_at ?dnext_shift ?dsettled ?dturn_behind ?dline_of ?dmoved_on ?dmove_shares ?dweights_behind ?dmeans_of ?d_law_tape ?d_law_draw ?d_law_cut ?d_law_plus ?d_law_times ?d_law_parts ?d_law_hall ?d_law_all_lines ?d_law_rule ?d_law_orders ?d_law_soonest ?d_law_sent ?d_law_more ?d_law_evened ?d_law_asked ?d_law_behind ?d_law_first ?d_law_due ?dlaw ?zlen ?zabs ?zrange ?zlist ?ztuple ?zint ?zsum ?zzip ?zmin ?zmax ?zenumerate ?zrepr ?cWHOLE_TURN
  (case dgreatest_divisor=>walk_at"dk")
  (case dfraction_of=>walk_at"dk")
  (case dtaken_off=>walk_at"dk")
  (case ddivided=>walk_at"dk")
  (case dis_less=>walk_at"dk")
  (case don_one_bottom=>walk_at"dk")
  (case dplace_of_lines=>walk_at"dk")
  (case dfirst_shortest=>walk_at"dk")
  (case dwait_at=>walk_at"dk")
  (case dfirst_quickest=>walk_at"dk")
  (case dsent_to=>walk_at"dk")
  (case dfirst_stand=>walk_at"dk")
  (case dall_orders=>walk_at"dk")
  (case dwith_more=>walk_at"dk")
  (case dcome_to=>walk_at"dk")
  (case ddone_at=>walk_at"dk")
  (case dnext_shift=>walk_at"dk")
  (case dsettled=>walk_at"dk")
  (case dturn_behind=>walk_at"dk")
  (case dline_of=>walk_at"dk")
  (case dmoved_on=>walk_at"dk")
  (case dmove_shares=>walk_at"dk")
  (case dweights_behind=>walk_at"dk")
  (case dmeans_of=>walk_at"dk")
  (case d_law_tape=>walk_at"dk")
  (case d_law_draw=>walk_at"dk")
  (case d_law_cut=>walk_at"dk")
  (case d_law_plus=>walk_at"dk")
  (case d_law_times=>walk_at"dk")
  (case d_law_parts=>walk_at"dk")
  (case d_law_hall=>walk_at"dk")
  (case d_law_all_lines=>walk_at"dk")
  (case d_law_rule=>walk_at"dk")
  (case d_law_orders=>walk_at"dk")
  (case d_law_soonest=>walk_at"dk")
  (case d_law_sent=>walk_at"dk")
  (case d_law_more=>walk_at"dk")
  (case d_law_evened=>walk_at"dk")
  (case d_law_asked=>walk_at"dk")
  (case d_law_behind=>walk_at"dk")
  (case d_law_first=>walk_at"dk")
  (case d_law_due=>walk_at"dk")
  (case dlaw=>walk_at"dk")
  (case zlen=>k_is)
  (case zabs=>k_is)
  (case zrange=>k_is)
  (case zlist=>k_is)
  (case ztuple=>k_is)
  (case zint=>k_is)
  (case zsum=>k_is)
  (case zzip=>k_is)
  (case zmin=>k_is)
  (case zmax=>k_is)
  (case zenumerate=>k_is)
  (case zrepr=>k_is)
  (case cWHOLE_TURN=>(refine' L2.ConK.ints ?a ?l ?i ?z;(case a=>k_is);(case l=>k_is);(case i=>rfl);(case z=>decide)))