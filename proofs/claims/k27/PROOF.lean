import PyProof.Rows.All
import Wide.All
import OpenK.AllK
import Wide.FinOn
import Lean
import PyProof.EqAt
import PyProof.EqKinds
import PyProof.TupleCall
import KE.KRevIter
import PyProof.FactsAll.range
import PyProof.P3In
import PyProof.ZipIter
import PyProof.TupleIter
import PyProof.WalkInts
import PyProof.SeqI3
import PyProof.EnumFor
import PyProof.EnumMake
import PyProof.ListMulRoad
import PyProof.Rows.SortRev
import PyProof.SumWalkG
import PyProof.StrWalks
import PyProof.StrCalls2
import PyProof.StrLawsTight
import KE.KIntText
import PyProof.StrBlockG
import PyProof.Rows.StrItems
import PyProof.StrLawsRepr
import PyProof.SliceStr2
import PyProof.StrBlockI
import PyProof.Rows.IntBool
import PyProof.Rows.FStr
import PyProof.FString
import PyProof.FactsAll.tuple
import KE.KSortTup
import PyProof.AutoListH
import PyProof.StrOps2
import PyProof.ListStr
import PyProof.DictRoadsH
import PyProof.Rows.TupTab
import PyProof.P3Eq
import PyProof.StationsW
import PyProof.RulesAs
import OpenK.KOwn
import KE.KTryMore
import PyProof.NsDelKeeps
import PyProof.ExcArgsOwn
import PyProof.ExcInit
import PyProof.InstStoreFacts
import PyProof.ListRange
import PyProof.TupleOfStr
import PyProof.CollectIter
import PyProof.DictItems
import PyProof.DictWalks
import PyProof.CollectWalk
import PySem.Challenge.RW_shorterline_k27_what_turns_leave
set_option Elab.async false
set_option linter.all false
set_option maxRecDepth 100000
set_option bootstrap.genMatcherCode false
namespace Zz
theorem e1_1{α:Sort _}{p:α→Prop}{g:Prop}(h:∃a,p a)(k:∀a,p a→g):g:=h.elim λa h=>k a h
theorem e0_2{p q:Prop}{g:Prop}(h:p∧q)(k:p→q→g):g:=k  h.1 h.2
theorem e2_1{α β:Sort _}{p:α→β→Prop}{g:Prop}(h:∃a b,p a b)(k:∀a b,p a b→g):g:=h.elim λa h=>h.elim λb h=>k a b h
theorem e1_2{α:Sort _}{p q:α→Prop}{g:Prop}(h:∃a,p a∧q a)(k:∀a,p a→q a→g):g:=h.elim λa h=>k a h.1 h.2
theorem e0_3{p q r:Prop}{g:Prop}(h:p∧q∧r)(k:p→q→r→g):g:=k  h.1 h.2.1 h.2.2
theorem e3_1{α β γ:Sort _}{p:α→β→γ→Prop}{g:Prop}(h:∃a b c,p a b c)(k:∀a b c,p a b c→g):g:=h.elim λa h=>h.elim λb h=>h.elim λc h=>k a b c h
theorem e2_2{α β:Sort _}{p q:α→β→Prop}{g:Prop}(h:∃a b,p a b∧q a b)(k:∀a b,p a b→q a b→g):g:=h.elim λa h=>h.elim λb h=>k a b h.1 h.2
theorem e1_3{α:Sort _}{p q r:α→Prop}{g:Prop}(h:∃a,p a∧q a∧r a)(k:∀a,p a→q a→r a→g):g:=h.elim λa h=>k a h.1 h.2.1 h.2.2
theorem e0_4{p q r s:Prop}{g:Prop}(h:p∧q∧r∧s)(k:p→q→r→s→g):g:=k  h.1 h.2.1 h.2.2.1 h.2.2.2
theorem e4_1{α β γ δ:Sort _}{p:α→β→γ→δ→Prop}{g:Prop}(h:∃a b c d,p a b c d)(k:∀a b c d,p a b c d→g):g:=h.elim λa h=>h.elim λb h=>h.elim λc h=>h.elim λd h=>k a b c d h
theorem e3_2{α β γ:Sort _}{p q:α→β→γ→Prop}{g:Prop}(h:∃a b c,p a b c∧q a b c)(k:∀a b c,p a b c→q a b c→g):g:=h.elim λa h=>h.elim λb h=>h.elim λc h=>k a b c h.1 h.2
theorem e2_3{α β:Sort _}{p q r:α→β→Prop}{g:Prop}(h:∃a b,p a b∧q a b∧r a b)(k:∀a b,p a b→q a b→r a b→g):g:=h.elim λa h=>h.elim λb h=>k a b h.1 h.2.1 h.2.2
theorem e1_4{α:Sort _}{p q r s:α→Prop}{g:Prop}(h:∃a,p a∧q a∧r a∧s a)(k:∀a,p a→q a→r a→s a→g):g:=h.elim λa h=>k a h.1 h.2.1 h.2.2.1 h.2.2.2
theorem e0_5{p q r s t:Prop}{g:Prop}(h:p∧q∧r∧s∧t)(k:p→q→r→s→t→g):g:=k  h.1 h.2.1 h.2.2.1 h.2.2.2.1 h.2.2.2.2
theorem e5_1{α β γ δ ε:Sort _}{p:α→β→γ→δ→ε→Prop}{g:Prop}(h:∃a b c d e,p a b c d e)(k:∀a b c d e,p a b c d e→g):g:=h.elim λa h=>h.elim λb h=>h.elim λc h=>h.elim λd h=>h.elim λe h=>k a b c d e h
theorem e4_2{α β γ δ:Sort _}{p q:α→β→γ→δ→Prop}{g:Prop}(h:∃a b c d,p a b c d∧q a b c d)(k:∀a b c d,p a b c d→q a b c d→g):g:=h.elim λa h=>h.elim λb h=>h.elim λc h=>h.elim λd h=>k a b c d h.1 h.2
theorem e3_3{α β γ:Sort _}{p q r:α→β→γ→Prop}{g:Prop}(h:∃a b c,p a b c∧q a b c∧r a b c)(k:∀a b c,p a b c→q a b c→r a b c→g):g:=h.elim λa h=>h.elim λb h=>h.elim λc h=>k a b c h.1 h.2.1 h.2.2
theorem e2_4{α β:Sort _}{p q r s:α→β→Prop}{g:Prop}(h:∃a b,p a b∧q a b∧r a b∧s a b)(k:∀a b,p a b→q a b→r a b→s a b→g):g:=h.elim λa h=>h.elim λb h=>k a b h.1 h.2.1 h.2.2.1 h.2.2.2
theorem e1_5{α:Sort _}{p q r s t:α→Prop}{g:Prop}(h:∃a,p a∧q a∧r a∧s a∧t a)(k:∀a,p a→q a→r a→s a→t a→g):g:=h.elim λa h=>k a h.1 h.2.1 h.2.2.1 h.2.2.2.1 h.2.2.2.2
theorem e0_6{p q r s t u:Prop}{g:Prop}(h:p∧q∧r∧s∧t∧u)(k:p→q→r→s→t→u→g):g:=k  h.1 h.2.1 h.2.2.1 h.2.2.2.1 h.2.2.2.2.1 h.2.2.2.2.2
theorem e6_1{α β γ δ ε ζ:Sort _}{p:α→β→γ→δ→ε→ζ→Prop}{g:Prop}(h:∃a b c d e f,p a b c d e f)(k:∀a b c d e f,p a b c d e f→g):g:=h.elim λa h=>h.elim λb h=>h.elim λc h=>h.elim λd h=>h.elim λe h=>h.elim λf h=>k a b c d e f h
theorem e5_2{α β γ δ ε:Sort _}{p q:α→β→γ→δ→ε→Prop}{g:Prop}(h:∃a b c d e,p a b c d e∧q a b c d e)(k:∀a b c d e,p a b c d e→q a b c d e→g):g:=h.elim λa h=>h.elim λb h=>h.elim λc h=>h.elim λd h=>h.elim λe h=>k a b c d e h.1 h.2
theorem e4_3{α β γ δ:Sort _}{p q r:α→β→γ→δ→Prop}{g:Prop}(h:∃a b c d,p a b c d∧q a b c d∧r a b c d)(k:∀a b c d,p a b c d→q a b c d→r a b c d→g):g:=h.elim λa h=>h.elim λb h=>h.elim λc h=>h.elim λd h=>k a b c d h.1 h.2.1 h.2.2
theorem e3_4{α β γ:Sort _}{p q r s:α→β→γ→Prop}{g:Prop}(h:∃a b c,p a b c∧q a b c∧r a b c∧s a b c)(k:∀a b c,p a b c→q a b c→r a b c→s a b c→g):g:=h.elim λa h=>h.elim λb h=>h.elim λc h=>k a b c h.1 h.2.1 h.2.2.1 h.2.2.2
theorem e2_5{α β:Sort _}{p q r s t:α→β→Prop}{g:Prop}(h:∃a b,p a b∧q a b∧r a b∧s a b∧t a b)(k:∀a b,p a b→q a b→r a b→s a b→t a b→g):g:=h.elim λa h=>h.elim λb h=>k a b h.1 h.2.1 h.2.2.1 h.2.2.2.1 h.2.2.2.2
theorem e1_6{α:Sort _}{p q r s t u:α→Prop}{g:Prop}(h:∃a,p a∧q a∧r a∧s a∧t a∧u a)(k:∀a,p a→q a→r a→s a→t a→u a→g):g:=h.elim λa h=>k a h.1 h.2.1 h.2.2.1 h.2.2.2.1 h.2.2.2.2.1 h.2.2.2.2.2
theorem e0_7{p q r s t u v:Prop}{g:Prop}(h:p∧q∧r∧s∧t∧u∧v)(k:p→q→r→s→t→u→v→g):g:=k  h.1 h.2.1 h.2.2.1 h.2.2.2.1 h.2.2.2.2.1 h.2.2.2.2.2.1 h.2.2.2.2.2.2
theorem e7_1{α β γ δ ε ζ η:Sort _}{p:α→β→γ→δ→ε→ζ→η→Prop}{g:Prop}(h:∃a b c d e f i,p a b c d e f i)(k:∀a b c d e f i,p a b c d e f i→g):g:=h.elim λa h=>h.elim λb h=>h.elim λc h=>h.elim λd h=>h.elim λe h=>h.elim λf h=>h.elim λi h=>k a b c d e f i h
theorem e6_2{α β γ δ ε ζ:Sort _}{p q:α→β→γ→δ→ε→ζ→Prop}{g:Prop}(h:∃a b c d e f,p a b c d e f∧q a b c d e f)(k:∀a b c d e f,p a b c d e f→q a b c d e f→g):g:=h.elim λa h=>h.elim λb h=>h.elim λc h=>h.elim λd h=>h.elim λe h=>h.elim λf h=>k a b c d e f h.1 h.2
theorem e5_3{α β γ δ ε:Sort _}{p q r:α→β→γ→δ→ε→Prop}{g:Prop}(h:∃a b c d e,p a b c d e∧q a b c d e∧r a b c d e)(k:∀a b c d e,p a b c d e→q a b c d e→r a b c d e→g):g:=h.elim λa h=>h.elim λb h=>h.elim λc h=>h.elim λd h=>h.elim λe h=>k a b c d e h.1 h.2.1 h.2.2
theorem e4_4{α β γ δ:Sort _}{p q r s:α→β→γ→δ→Prop}{g:Prop}(h:∃a b c d,p a b c d∧q a b c d∧r a b c d∧s a b c d)(k:∀a b c d,p a b c d→q a b c d→r a b c d→s a b c d→g):g:=h.elim λa h=>h.elim λb h=>h.elim λc h=>h.elim λd h=>k a b c d h.1 h.2.1 h.2.2.1 h.2.2.2
theorem i2_1{α β:Sort _}{p:α→β→Prop}(a:α)(b:β)(h0:p a b):∃a b,p a b:=⟨a,b,h0⟩
theorem i1_2{α:Sort _}{p q:α→Prop}(a:α)(h0:p a)(h1:q a):∃a,p a∧q a:=⟨a,h0,h1⟩
theorem i0_3{p q r:Prop}(h0:p)(h1:q)(h2:r):p∧q∧r:=⟨h0,h1,h2⟩
theorem i3_1{α β γ:Sort _}{p:α→β→γ→Prop}(a:α)(b:β)(c:γ)(h0:p a b c):∃a b c,p a b c:=⟨a,b,c,h0⟩
theorem i2_2{α β:Sort _}{p q:α→β→Prop}(a:α)(b:β)(h0:p a b)(h1:q a b):∃a b,p a b∧q a b:=⟨a,b,h0,h1⟩
theorem i1_3{α:Sort _}{p q r:α→Prop}(a:α)(h0:p a)(h1:q a)(h2:r a):∃a,p a∧q a∧r a:=⟨a,h0,h1,h2⟩
theorem i0_4{p q r s:Prop}(h0:p)(h1:q)(h2:r)(h3:s):p∧q∧r∧s:=⟨h0,h1,h2,h3⟩
theorem i4_1{α β γ δ:Sort _}{p:α→β→γ→δ→Prop}(a:α)(b:β)(c:γ)(d:δ)(h0:p a b c d):∃a b c d,p a b c d:=⟨a,b,c,d,h0⟩
theorem i3_2{α β γ:Sort _}{p q:α→β→γ→Prop}(a:α)(b:β)(c:γ)(h0:p a b c)(h1:q a b c):∃a b c,p a b c∧q a b c:=⟨a,b,c,h0,h1⟩
theorem i2_3{α β:Sort _}{p q r:α→β→Prop}(a:α)(b:β)(h0:p a b)(h1:q a b)(h2:r a b):∃a b,p a b∧q a b∧r a b:=⟨a,b,h0,h1,h2⟩
theorem i1_4{α:Sort _}{p q r s:α→Prop}(a:α)(h0:p a)(h1:q a)(h2:r a)(h3:s a):∃a,p a∧q a∧r a∧s a:=⟨a,h0,h1,h2,h3⟩
theorem i0_5{p q r s t:Prop}(h0:p)(h1:q)(h2:r)(h3:s)(h4:t):p∧q∧r∧s∧t:=⟨h0,h1,h2,h3,h4⟩
theorem i5_1{α β γ δ ε:Sort _}{p:α→β→γ→δ→ε→Prop}(a:α)(b:β)(c:γ)(d:δ)(e:ε)(h0:p a b c d e):∃a b c d e,p a b c d e:=⟨a,b,c,d,e,h0⟩
theorem i4_2{α β γ δ:Sort _}{p q:α→β→γ→δ→Prop}(a:α)(b:β)(c:γ)(d:δ)(h0:p a b c d)(h1:q a b c d):∃a b c d,p a b c d∧q a b c d:=⟨a,b,c,d,h0,h1⟩
theorem i3_3{α β γ:Sort _}{p q r:α→β→γ→Prop}(a:α)(b:β)(c:γ)(h0:p a b c)(h1:q a b c)(h2:r a b c):∃a b c,p a b c∧q a b c∧r a b c:=⟨a,b,c,h0,h1,h2⟩
theorem i2_4{α β:Sort _}{p q r s:α→β→Prop}(a:α)(b:β)(h0:p a b)(h1:q a b)(h2:r a b)(h3:s a b):∃a b,p a b∧q a b∧r a b∧s a b:=⟨a,b,h0,h1,h2,h3⟩
theorem i1_5{α:Sort _}{p q r s t:α→Prop}(a:α)(h0:p a)(h1:q a)(h2:r a)(h3:s a)(h4:t a):∃a,p a∧q a∧r a∧s a∧t a:=⟨a,h0,h1,h2,h3,h4⟩
theorem i0_6{p q r s t u:Prop}(h0:p)(h1:q)(h2:r)(h3:s)(h4:t)(h5:u):p∧q∧r∧s∧t∧u:=⟨h0,h1,h2,h3,h4,h5⟩
theorem i6_1{α β γ δ ε ζ:Sort _}{p:α→β→γ→δ→ε→ζ→Prop}(a:α)(b:β)(c:γ)(d:δ)(e:ε)(f:ζ)(h0:p a b c d e f):∃a b c d e f,p a b c d e f:=⟨a,b,c,d,e,f,h0⟩
theorem i5_2{α β γ δ ε:Sort _}{p q:α→β→γ→δ→ε→Prop}(a:α)(b:β)(c:γ)(d:δ)(e:ε)(h0:p a b c d e)(h1:q a b c d e):∃a b c d e,p a b c d e∧q a b c d e:=⟨a,b,c,d,e,h0,h1⟩
theorem i4_3{α β γ δ:Sort _}{p q r:α→β→γ→δ→Prop}(a:α)(b:β)(c:γ)(d:δ)(h0:p a b c d)(h1:q a b c d)(h2:r a b c d):∃a b c d,p a b c d∧q a b c d∧r a b c d:=⟨a,b,c,d,h0,h1,h2⟩
theorem i3_4{α β γ:Sort _}{p q r s:α→β→γ→Prop}(a:α)(b:β)(c:γ)(h0:p a b c)(h1:q a b c)(h2:r a b c)(h3:s a b c):∃a b c,p a b c∧q a b c∧r a b c∧s a b c:=⟨a,b,c,h0,h1,h2,h3⟩
theorem i2_5{α β:Sort _}{p q r s t:α→β→Prop}(a:α)(b:β)(h0:p a b)(h1:q a b)(h2:r a b)(h3:s a b)(h4:t a b):∃a b,p a b∧q a b∧r a b∧s a b∧t a b:=⟨a,b,h0,h1,h2,h3,h4⟩
theorem i1_6{α:Sort _}{p q r s t u:α→Prop}(a:α)(h0:p a)(h1:q a)(h2:r a)(h3:s a)(h4:t a)(h5:u a):∃a,p a∧q a∧r a∧s a∧t a∧u a:=⟨a,h0,h1,h2,h3,h4,h5⟩
theorem i0_7{p q r s t u v:Prop}(h0:p)(h1:q)(h2:r)(h3:s)(h4:t)(h5:u)(h6:v):p∧q∧r∧s∧t∧u∧v:=⟨h0,h1,h2,h3,h4,h5,h6⟩
theorem i7_1{α β γ δ ε ζ η:Sort _}{p:α→β→γ→δ→ε→ζ→η→Prop}(a:α)(b:β)(c:γ)(d:δ)(e:ε)(f:ζ)(i:η)(h0:p a b c d e f i):∃a b c d e f i,p a b c d e f i:=⟨a,b,c,d,e,f,i,h0⟩
theorem i6_2{α β γ δ ε ζ:Sort _}{p q:α→β→γ→δ→ε→ζ→Prop}(a:α)(b:β)(c:γ)(d:δ)(e:ε)(f:ζ)(h0:p a b c d e f)(h1:q a b c d e f):∃a b c d e f,p a b c d e f∧q a b c d e f:=⟨a,b,c,d,e,f,h0,h1⟩
theorem i5_3{α β γ δ ε:Sort _}{p q r:α→β→γ→δ→ε→Prop}(a:α)(b:β)(c:γ)(d:δ)(e:ε)(h0:p a b c d e)(h1:q a b c d e)(h2:r a b c d e):∃a b c d e,p a b c d e∧q a b c d e∧r a b c d e:=⟨a,b,c,d,e,h0,h1,h2⟩
theorem i4_4{α β γ δ:Sort _}{p q r s:α→β→γ→δ→Prop}(a:α)(b:β)(c:γ)(d:δ)(h0:p a b c d)(h1:q a b c d)(h2:r a b c d)(h3:s a b c d):∃a b c d,p a b c d∧q a b c d∧r a b c d∧s a b c d:=⟨a,b,c,d,h0,h1,h2,h3⟩
theorem i8_1{α β γ δ ε ζ η θ:Sort _}{p:α→β→γ→δ→ε→ζ→η→θ→Prop}(a:α)(b:β)(c:γ)(d:δ)(e:ε)(f:ζ)(i:η)(j:θ)(h0:p a b c d e f i j):∃a b c d e f i j,p a b c d e f i j:=⟨a,b,c,d,e,f,i,j,h0⟩
theorem i7_2{α β γ δ ε ζ η:Sort _}{p q:α→β→γ→δ→ε→ζ→η→Prop}(a:α)(b:β)(c:γ)(d:δ)(e:ε)(f:ζ)(i:η)(h0:p a b c d e f i)(h1:q a b c d e f i):∃a b c d e f i,p a b c d e f i∧q a b c d e f i:=⟨a,b,c,d,e,f,i,h0,h1⟩
theorem i6_3{α β γ δ ε ζ:Sort _}{p q r:α→β→γ→δ→ε→ζ→Prop}(a:α)(b:β)(c:γ)(d:δ)(e:ε)(f:ζ)(h0:p a b c d e f)(h1:q a b c d e f)(h2:r a b c d e f):∃a b c d e f,p a b c d e f∧q a b c d e f∧r a b c d e f:=⟨a,b,c,d,e,f,h0,h1,h2⟩
theorem i5_4{α β γ δ ε:Sort _}{p q r s:α→β→γ→δ→ε→Prop}(a:α)(b:β)(c:γ)(d:δ)(e:ε)(h0:p a b c d e)(h1:q a b c d e)(h2:r a b c d e)(h3:s a b c d e):∃a b c d e,p a b c d e∧q a b c d e∧r a b c d e∧s a b c d e:=⟨a,b,c,d,e,h0,h1,h2,h3⟩
end Zz
local macro_rules
 |`(tactic|let $d:letDecl)=>do
  let D:=d.raw[0];let p:=D[0];let q:=p[1].getSepArgs
  if p.getKind !=``Lean.Parser.Term.anonymousCtor||q.size<2 then Lean.Macro.throwUnsupported
  let mut e:Lean.TSyntax `term:=⟨D[4]⟩
  if D[2].getNumArgs !=0 then e:=←`(($e : $(⟨D[2][0][1]⟩)))
  let T:=Array (Lean.TSyntax `tactic)
  let mut U:T:=#[]
  let mut cl:T:=#[]
  if e.raw.isIdent then cl:=#[←`(tactic|try clear $(⟨e.raw⟩))]
  let K:=Nat.min q.size 8
  for k in [0:K-1] do
   let N:=K-k
   let mut z:=cl
   for i in [0:N] do
    let c:=q[i]!
    if c.isIdent&&c.getId !=`rfl&&(i+1<N||N==q.size) then z:=z.push (←`(tactic|intro $(⟨c⟩):ident))
    else
     let y:=Lean.mkIdent (←Lean.Macro.addMacroScope (.mkSimple s!"x{i}"))
     z:=z.push (←`(tactic|intro $y:ident))
     if i+1==N&&N<q.size then
      let r:Lean.TSyntaxArray `term:=(q.extract i q.size).map (⟨·⟩)
      z:=z.push (←`(tactic|let ⟨$r,*⟩:=$y))
     else if c.getKind==``Lean.Parser.Term.anonymousCtor then z:=z.push (←`(tactic|let $(⟨c⟩):term:=$y))
     else if c.isIdent then z:=z.push (←`(tactic|rcases $y:ident with $(⟨c⟩):ident))
   for i in [0:N] do
    let s:=#[←`(tactic|refine $(Lean.mkIdent (.mkStr2 "Zz" s!"e{N-1-i}_{i+1}")) $e ?_)]++z
    U:=U.push (←`(tactic|($[$s:tactic];*)))
  let rec cv:Nat->Lean.Syntax->Lean.MacroM (Lean.TSyntax `rcasesPat)
   |0,_=>Lean.Macro.throwUnsupported
   |n+1,c=>do
    if c.isIdent then `(rcasesPat|$(⟨c⟩):ident)
    else if c.getKind==``Lean.Parser.Term.anonymousCtor then
     let a:=←c[1].getSepArgs.mapM (cv n)
     `(rcasesPat|⟨$[$a],*⟩)
    else `(rcasesPat|_)
  let m←cv 9 p
  `(tactic|first $[|$U:tactic]*|rcases $e:term with $m:rcasesPat)
 |`(tactic|intro $a*)=>do
  let C:=λx:Lean.Syntax=>x.getKind==``Lean.Parser.Term.anonymousCtor||x.getId==`rfl
  if !a.any (C ·.raw) then Lean.Macro.throwUnsupported
  let mut z:Array (Lean.TSyntax `tactic):=#[]
  for x in a do
   if C x then
    let y:=Lean.mkIdent (←Lean.Macro.addMacroScope `y)
    z:=z.push (←`(tactic|intro $y:ident))
    z:=z.push (←if x.raw.isIdent then `(tactic|rcases $y:ident with $(⟨x⟩):ident) else `(tactic|let $x:term:=$y))
   else z:=z.push (←`(tactic|intro $x:term))
  `(tactic|($[$z:tactic];*))
 |`(tactic|exact ⟨$a,*⟩)=>do
  let q:=a.getElems;let n:=q.size
  if n<3||9<n then Lean.Macro.throwUnsupported
  let mut U:Array (Lean.TSyntax `tactic):=#[]
  for i in [0:n] do U:=U.push (←`(tactic|exact $(Lean.mkIdent (.mkStr2 "Zz" s!"i{n-1-i}_{i+1}")) $q*))
  `(tactic|first $[|$U:tactic]*|exact (⟨$a,*⟩))
 |`(tactic|refine ⟨$a,*⟩)=>do
  let q:=a.getElems;let n:=q.size
  if n<3||9<n then Lean.Macro.throwUnsupported
  let mut U:Array (Lean.TSyntax `tactic):=#[]
  for i in [0:n] do U:=U.push (←`(tactic|refine $(Lean.mkIdent (.mkStr2 "Zz" s!"i{n-1-i}_{i+1}")) $q*))
  `(tactic|first $[|$U:tactic]*|refine (⟨$a,*⟩))
local macro_rules |`(tactic|ext a)=>`(tactic|walk_at"a")|`(tactic|ext b)=>`(tactic|walk_at"b")|`(tactic|ext c)=>`(tactic|walk_at"c")|`(tactic|ext d)=>`(tactic|walk_at"d")|`(tactic|ext dk)=>`(tactic|walk_at"dk")|`(tactic|ext dm)=>`(tactic|walk_at"dm")|`(tactic|ext e)=>`(tactic|walk_at"e")|`(tactic|ext f)=>`(tactic|walk_at"f")|`(tactic|ext g)=>`(tactic|walk_at"g")|`(tactic|ext h)=>`(tactic|walk_at"h")|`(tactic|ext n)=>`(tactic|walk_at"n")|`(tactic|ext s)=>`(tactic|walk_at"s")|`(tactic|ext sc)=>`(tactic|walk_at"sc")|`(tactic|ext x)=>`(tactic|walk_at"x")
open PySem renaming wpAny_bind->aD,PyData->dL,Value->lD,Shared->mT,wpAny_pure->Dl,starEach->aac,sizeLine->aad,sizeLine_eq->aag,wpAny_setField_rec->aat,Program->aaD,wpAny_callSpecial?_slot->aaF,wpAny_call_entry->aaJ,mainGlobals->aaK,foldedSetIterable->aaL,wpAny_newObj_type->aaV,Heap->aaX,Around->aa6,wpAny_field->aba,bootBuiltins->abb,wpAny_isOneOf_itemiter->abd,sysModules->abv,attributeBase->abz,assignEach->abG,wpAny_rule->abH,wpAny_holding->abI,Paired->abJ,wpAny_dictEntries->abP,swapsWith->abQ,compareOp->abR,wpAny_attempt->ab3,DictEntry->ab9,wpAny_dictEpoch->acd,backTo->acg,pyNext->ach,wpAny_isInstance->ack,binaryOp->acs,wpAny_mono->acy,IsItemIter->acE,mem_of_lookup->acG,wpAny_seqItems->acP,setField->acQ,wpAny_passesOwn->acT,FuncData->acV,wpAny_standAt->ac1,swapsWithSole->ac2,swappedStores->ac3,behindInMarks->ac4,Builtin->ac8,wpAny_typeOf->add,Keyword->ade,rawInt->adj,wpAny_isOneOf_keyiter->adu,standAt->adw,holding->adx,keywordEach->adB,wpAny_fieldsOf->adE,wpAny_comprehension_free->adV,ReadsAll->adW,letOwnedTupleGo->ad2,wpAny_specialOf->ad4,assign->ad5,wpAny_Call_Name_kw->ad6,call_meets->ad7,sliceBounds->aee,isSubtype_stop->ael,wpAny_pyIter_slot->aer,wpAny_notOrdered_dict->aez,wpAny_forIn_list->aeG,codeAny->aeN,getItem->aeO,NameKind->aeT,wpAny_updateSeq_pair->aeV,wpAny_execs_nil->ae3,pyIter->ae4,IsPair->ae9,wpAny_loadPart'->afb,codeAny_builtin->afc,codeAny_mono->afh,valueAt->afj,backToKw->afq,wpAny_newTuple->afv,wpAny_binaryOp_repeat_ref->afF,wpAny_sequenceKey->afI,wpAny_letGo->afK,wpAny_onRaise->afQ,IsItemIterOut->afS,PassesOwn->afX,IntMulOk->afY,noFill_tuple_add->af0,wpAny_Call_method0_late->af8,concat_meets->agh,IsPart->agi,typeIs_int->agk,wpAny_Call_method_late->agl,wpAny_Assign_Subscript->ago,wpAny_updateSeq->agz,exec_Assign_Name_used->agB,subscripted->agJ,compEnvC->agL,tupleKind->agZ,callerA->ag1,relabel->ag2,evalArgs_none->ag6,seq_tuple_add->ahf,plainId_quiet->ahi,typeLookup->ahn,setItem->ahx,BindsTo->ahz,seqIndex_neg->ahA,call_meetsIn->ahF,seqSlot_of->ahR,specialOf->ahS,call->ah6
open List renaming length_map->gE,getElem?_eq_getElem->iO,mem_of_getElem?->oR,getElem?_eq_some_iff->DL,mem_cons_of_mem->Ge,getElem?_map->GE,mem_cons_self->Io,take_length->Ld,getD_eq_getElem?_getD->Mt,mem_singleton->aab,mem_map->aae,replicate->aai,length_append->aaj,mem_cons->aam,map_cons->aar,size_toArray->aav,range->aaw,getElem?_append_right->aay,getElem?_append_left->aaz,length_take->aaB,getElem?_set_ne->aaC,map_append->aaE,length_cons->aaG,getElem?_set_self->aaI,mem_append->aaO,getElem?_take->aaP,take_add_one->aaQ,nodup_cons->aaR,pairwise_iff_getElem->aaU,length_range->aaW,mem_iff_getElem->aa0,mem_append_right->aa5,append_nil->aa7,map_map->abc,append_assoc->abg,eq_nil_of_length_eq_zero->abh,length_set->abj,getElem_mem->abr,mem_flatMap->abB,ext_getElem?->abD,not_mem_nil->abL,take_succ->abX,all_eq_true->ab2,Nodup->ab8,getElem?_range->aca,length_replicate->acf,lookup_cons->aci,sum_cons->aco,getElem?_zipWith_eq_some->acv,pairwise_append->acw,foldl_cons->acA,nil_append->acB,all_cons->acK,range_succ->acU,mem_of_mem_take->acW,getElem?_of_mem->acZ,length_zipIdx->adm,take_append_drop->adv,foldl_append->ady,nodup_nil->adC,map_nil->adI,all_map->adJ,zipWith->adK,drop_eq_getElem_cons->adM,replicate_succ->adN,flatMap_append->adO,getElem_set_ne->adP,sum_append->ad3,set_eq_take_append_cons_drop->aeh,take_of_length_le->aek,pairwise_reverse->aeB,length_filter_le->aeC,length_drop->aeF,getElem_map->aeL,filter_cons->aeM,mem_append_left->aeR,length->aeU,forIn_cons->ae7,filterMap_cons->aff,getElem_of_mem->afg,pairwise_cons->afr,drop_zero->afs,map_replicate->afy,mem_or_eq_of_mem_set->afG,reverse_perm->afN,getElem?_take_of_lt->afP,any_cons->afR,eq_of_mem_replicate->afU,getElem?_replicate->afZ,ext_getElem->af1,any_eq_true->agc,of_mem_zip->agw,length_nil->agy,getElem_set_self->agC,getElem?_eq_none->agG,contains_iff_mem->agH,mem_range->agI,getElem?_mapIdx->agR,getElem?_zipIdx->agS,take->ag3,map_congr_left->ag5,getElem_zipIdx->ag7,reverse_append->aha,length_zipWith->ahc,map_eq_nil_iff->ahd,filter_append->ahw,nodup_append->ahD,getElem?_inj->ahK,zipIdx_cons->ahQ,range'->ahY,foldl->ah5
open Nat renaming le_refl->Ad,le_trans->aak,lt_of_lt_of_le->aan,lt_of_le_of_lt->aao,lt_trans->aaA,le_of_lt->aaN,ne_of_lt->aaS,ne_of_gt->aaY,mul_le_mul->aby,gcd_pos_of_pos_right->abC,zero_add->abK,mul_comm->abZ,lt_succ_self->ab1,mul_assoc->ab4,dvd_trans->ab5,le_add_right->acl,zero_le->act,pow_le_pow_right->acu,dvd_mul_left->acM,gcd_dvd_right->acY,lt_irrefl->ac0,add_assoc->ac5,zero_ne_add_one->ac9,pow_succ->adk,div_le_self->adp,mul_le_mul_right->adD,mul_pos->adF,le_of_dvd->ad0,lt_or_gt_of_ne->ad8,div_mul_cancel->aea,lt_or_eq_of_le->aeb,lt_succ_of_lt->aem,lt_of_succ_lt->aev,le_of_ble_eq_true->aex,min_le_right->aeE,gcd_dvd_left->aeI,Coprime->aeZ,le_max_left->ae8,succ_mul->afi,gcd_le_right->af5,gcd_comm->agu,pos_of_dvd_of_pos->agE,log2_lt->agP,div_pos->agQ,add_le_add_right->agT,mul_lt_mul_right->agU,mul_div_cancel'->ag8,add_left_cancel->ahb,mod_lt->ahr,mul_right_comm->ahu,gcd_zero_right->ahv,dvd_mul_right->ahH,dvd_refl->ahI,pow_zero->ahL,le_succ->ahX,mul_one->ahZ
open PySem.Heap renaming get?_push_of_some->AD,lt_size->OR,get?_push_size->aaa,SameBut->abk,size_push->abx,get?_update_other->acJ,get?_update_self->acS,get?_push_cases->aeW,ExtBut->afJ,size_update->aga
open PySem.W renaming Frag->LD,mg_none_of->aa9,nsIn->abl,keepIn->adz,fnOf->adH,codeIn->afp,cellsFrom_some->agg,mg_of->ahh,OpenLaw->ah0,WalkO->ah9
open PyProof.Rows renaming wpS_pure->aaf,wpS_bind->aas,pendingOf->aaZ,SortSt->aa2,wpS_forRange->abo,slot_tuple_getitem->abq,wpS_mono->abF,callWith_type1->acI,setArr->adn,callWith_builtin1->aeD,wpS_modify->aeK,SortKind->ae2,envOfC->ae5,seqObj->afd,wpS_get->afk,assignInOrder_cons->afo,failedOf->afC,AllBare->afH,wpS_lift->agb,subscriptTail_builtinR->agj,sortedHeap->agt,getElem?_bubble->agA,gallopOf->agW,IntsAre->ag0,tupleItemsOf_->ahg,listUpdate_at->ahj
open PySem.PyData renaming eqv->aah,depthAll->aaq,canLayAll0->aa3,hasDict_of_canLay->abe,int->abi,hasDictAll_of_canLayAll->acj,hasDictAll->acx,hasDict->acO,tuple->acX,shownAll->ado,eqvAll->adr,str->afw,shown->agm,showableAll->aho,noDict_hsm->ahE,canLay0->ah7
open Option.some renaming inj->aal,injEq->ahC
open Int renaming natCast_mul->aap,natAbs_natCast->aaH,toNat_natCast->aaM,mul_pos->abm,mul_left_comm->abn,mul_assoc->abp,eq_ofNat_of_zero_le->abt,natCast_add->ab0,mul_comm->ab7,ofNat_dvd_left->acn,eq_of_mul_eq_mul_right->acR,mul_nonneg->adb,le_refl->adG,mul_ediv_cancel_left->ad1,natCast_nonneg->ad9,emod_lt_of_pos->aec,zero_add->aen,natAbs_mul->aes,natAbs_ediv_of_dvd->aet,zero_mul->aeu,mul_le_mul_of_nonneg_right->aeJ,mul_one->aeS,add_mul->aeY,nonneg_of_mul_nonneg_left->ae0,emod_nonneg->afe,mul_le_mul->afA,one_mul->afM,le_trans->agr,add_zero->ags,ofNat_lt->agv,natAbs_sub_le->ahG,mul_zero->ahJ
open PySem.PassesOwn renaming never->aau
open Bool renaming false_ne_true->aax,and_eq_true->aaT,eq_iff_iff->acz,false_eq_true->adg,beq_eq_decide_eq->aew,or_true->afm,not_eq_true->af6,or_eq_true->agx,or_eq_false_iff->agM,and_true->ahk
open PySem.F renaming slot_dict_itemiterator_next->aa1,slot_dict_keyiterator_next->abw,args_dict_itemiterator_next_1->ace,entry_dict_itemiterator_next->acm,slot_tuple_index->acp,slot_list_append->acq,type_list_append->acr,slot_dict_items_iter->acF,slot_dict_itemiterator_next->acL,type_tuple_index->ac6,slot_enumerate_next->adt,args_dict_keyiterator_next_1->adQ,plain_extend_loop->adR,args_tuple_add_2->adT,entry_dict_keyiterator_next->adY,slot_dict_itemiterator_iter->adZ,entry_tuple_add->aed,plainAttrs_dict->aef,slot_dict_items->aeg,slot_tuple_add->aei,slot_tuple_mul->aeo,slot_dict_get->aey,args_dict_items_iter_1->aeH,entry_dict_items_iter->aeX,slot_zip_next->afa,slot_tuple_iterator_next->afu,slot_tuple_hash->afL,slot_list_extend->afV,type_list_extend->afW,slot_list_index->af2,args_enumerate_next_1->af3,slot_tuple_rmul->af4,args_dict_get_3->af7,type_dict_items->af9,entry_enumerate_next->agn,entry_dict_get->agp,slot_dict_iter->agq,slot_int_rmul->agD,entry_extend_loop->ag9
open PySem.Builtin.Dict_items renaming ownsTuple->aa8,ownedTupleIsFree->abW,pairFromOwner->ab6,ownedTupleFields->adX,isOneOf->afz
open Ne renaming symm->abf
open Array renaming getElem?_eq_getElem->abu,length_toList->abO,getElem?_toList->abT,toList_append->acb,toList_push->aep,getElem?_eq_none->aeq,getD_eq_getD_getElem?->afl,toList_setIfInBounds->afD,toList->agf,mem_of_getElem?->agF,toList_extract->agX,mem_toList_iff->agY,forIn_toList->aht,toList_zip->ahU,toList_inj->ahV,toList_map->ahW,size_push->ah1
open LawfulBEq renaming eq_of_beq->abA
open PySem.Builtin.List renaming listLengthHint->abE,listTooLong->adU,listSameRef->afT
open PySem.Builtin.Tuple renaming tupleHashOf->abM,tupleExact->abU,tupleItemsOf->adA,tupleIsExact->aft,tupleTooMany->afx
open PySem.Builtin.SmallTypes renaming nextOf->abN,ownedTupleIsFree->abV,ownedTupleHandOut->acH
open PySem.Str renaming ofString->abY,empty->ahO
open Option renaming map_some->acD,map_eq_some_iff->adl,isSome_iff_exists->afO,getD_none->ahM
open PySem.Obj renaming mapSeq->acN,data_mapFields->ahq
open Or renaming inr->ada,inl->agN
open False renaming elim->adc
open PySem.Calls renaming callWith_builtin->adf,Name_function_global->afn,evalArgs_plain->agK,spliced_cons->ahm,spliced_nil->ahy
open PySem.SeqAt renaming canLay_of_shaped->adh,readOf->adi,shaped->aej,EqAt->agd,readsAll_map->ahp,items_eqAt->ahP,eqAt_reads->ahT
open PySem.Value renaming ref->adq,type->age,none->ahl
open PySem.Builtin.Slice renaming slicePlaces->adL,sliceAdjust->afE
open PySem.Builtin.Dict renaming showsAll->aeA
open PySem.NameKind renaming free->aeP,cell->aia
open PySem.Shared renaming TypeIs->aeQ
open PySem.Around renaming under_plainId->ae1
open ForInStep renaming yield->ae6
open PyProof.Rows.SortSt renaming mk'->afB
open PySem.Heap.SameBut renaming update->ag4
open PySem.Paired renaming length->ahe
open True renaming intro->ahs
open List.Pairwise renaming nil->ahB
open And renaming intro->ahN
open Sum renaming inl->ah2,inr->ah3
open Int.ofNat renaming inj->aib
namespace L2
open PySem PySem.Spec PyProof.Rows
variable{us:List lD}{H:Hp}{a b:Addr}{o:HO}{h:aaX}{P:aaD}{w:World}{g':Array GenState}{i j t':Nat}{ch fp:List Addr}{N ps:List Str}{x:Str}{M:Model}{A:aa6}{E Q:lD->mT->Prop}{v:V}{u:lD}{X:Cx}{e tg:Expr}{pos:Pos}{pins:List (Addr×Obj)}{σ:St}{K:LD}{es:List Expr}{body:List Stmt}{f:lD->lD->Sem lD}{r:R2}{g:Int->Int->Int}{op:CmpOp}{mg:Str->Option lD}{scope:Scope}
noncomputable abbrev Key:=Sum Int Str
noncomputable def vD:Key->lD->Bool
 | .inl k,v=>Value.isInt k v
 | .inr x,v=>Value.isStrOf x v
noncomputable def keyH(w:World):Key->Int
 | .inl k=>hashInt k
 | .inr x=>hashStr w x
theorem bG:∀{k:Key}{v:lD},vD k v=true->(∃i t,k=ah2 i/\v=Value.int i t)\/(∃x t,k=ah3 x/\v=Value.str x t)
 | .inl i,v,h=>by
  let⟨t,e⟩:=lD.isInt_shape h;exact .inl ⟨i,t,rfl,e⟩
 | .inr x,v,h=>by
  let⟨t,e⟩:=lD.isStrOf_shape h;exact .inr ⟨x,t,rfl,e⟩
def x6(i:Int)(t:Tok):vD (.inl i) (.int i t)=true:=by simp[vD,Value.isInt]
def yQ(x:Str)(t:Tok):vD (.inr x) (.str x t)=true:=by simp[vD,Value.isStrOf]
theorem LP(a b:Int):decide ((ah2 a:Key)=ah2 b)=(a==b):=by
 by_cases e:a=b
 .subst e;simp
 .simp_all
def M8(a b:Str):decide ((ah3 a:Key)=ah3 b)=decide (a=b):=by simp
def Pj(a:Int)(b:Str):decide ((ah2 a:Key)=ah3 b)=false:=rfl
def O9(a:Str)(b:Int):decide ((ah3 a:Key)=ah2 b)=false:=rfl
noncomputable def cj(prog:aaD)(w:World):PySem.KeyKind prog w Key where
 is:=vD
 hash:=keyH w
 inj:=λv a b ha hb=>by
  rcases bG ha with⟨i,t,rfl,rfl⟩|⟨x,t,rfl,rfl⟩
  .rcases bG hb with⟨j,u,rfl,e⟩|⟨y,u,rfl,e⟩
   .injection e with e1 _;rw[e1]
   .exact nomatch e
  .rcases bG hb with⟨j,u,rfl,e⟩|⟨y,u,rfl,e⟩
   .exact nomatch e
   .injection e with e1 _;rw[e1]
 byValue:=λk v h=>by
  rcases bG h with⟨i,t,rfl,rfl⟩|⟨x,t,rfl,rfl⟩<;>rfl
 pyHash:=λc h=>by
  rcases bG c with⟨i,t,rfl,rfl⟩|⟨x,t,rfl,rfl⟩
  .exact wpAny_pyHash_int h
  .exact wpAny_pyHash_str h
 eqBool:=λd c h=>by
  rcases bG d with⟨i,t,rfl,rfl⟩|⟨x,t,rfl,rfl⟩
  .rcases bG c with⟨j,u,rfl,rfl⟩|⟨y,u,rfl,rfl⟩
   .rw[LP]at h;exact wpAny_eqBool_int h
   .rw[Pj]at h;exact agd.int_str i t y u _ _ _ _ h
  .rcases bG c with⟨j,u,rfl,rfl⟩|⟨y,u,rfl,rfl⟩
   .rw[O9]at h;exact agd.str_int x t j u _ _ _ _ h
   .rw[M8]at h;exact wpAny_eqBool_str h
 «strs»:=λk x t v h=>by
  rcases bG h with⟨i,u,rfl,e⟩|⟨y,u,rfl,e⟩
  .exact nomatch e
  .injection e with e1 _
   subst e1
   cases v<;>rfl
def rH(prog:aaD)(w:World)(i:Int)(t:Tok):(cj prog w).is (.inl i) (.int i t)=true:=x6 i t
def sw(prog:aaD)(w:World)(x:Str)(t:Tok):(cj prog w).is (.inr x) (.str x t)=true:=yQ x t
inductive V where
 |non|bl (b:Bool)|int (i:Int)|str (x:Str)|byt (b:Array UInt8)|flt (b:UInt64)|ref (a:Addr)|ty (n:String)
 deriving DecidableEq
noncomputable def RelV:V->lD->Prop
 | .non,u=>u=ahl
 | .bl b,u=>u=Value.bool b
 | .int i,u=>∃t,u=Value.int i t
 | .str x,u=>∃t,u=Value.str x t
 | .byt b,u=>∃t,u=lD.bytes b t
 | .flt b,u=>∃t,u=lD.float b t
 | .ref a,u=>u=adq a
 | .ty n,u=>u=age n
noncomputable abbrev Vals:List V->List lD->Prop:=abJ RelV
def Vals.length{xs:List V}(r:Vals xs us):xs.length=us.length:=ahe r
theorem Vals.get:∀{xs:List V}{us:List lD}{i:Nat}{x:V},Vals xs us->xs[i]?=some x->∃u,us[i]?=some u/\RelV x u
 |_,_,_,_,.nil,e=>by simp at e
 |_,_,0,_,.cons r _,e=>by simp at e;subst e;exact⟨_,rfl,r⟩
 |_,_,i+1,x,.cons _ t,e=>by
  let⟨u,d,c⟩:=Vals.get t ‹_›;exact⟨u,by simpa using d,c⟩
theorem Vals.set{x:V}{u:lD}(r:RelV x u):∀{xs:List V}{us:List lD} (i:Nat),Vals xs us->Vals (xs.set i x) (us.set i u)
 |_,_,_,.nil=>.nil
 |_,_,0,.cons _ t=>.cons r t
 |_,_,i+1,.cons q t=>.cons q (Vals.set r i t)
theorem Vals.append:∀{xs ys:List V}{us c:List lD},Vals xs us->Vals ys c->Vals (xs++ys) (us++c)
 |_,_,_,_,.nil,s=>s
 |_,_,_,_,.cons r t,s=>.cons r (Vals.append t s)
theorem Vals.take:∀{xs:List V}{us:List lD} (n:Nat),Vals xs us->Vals (xs.take n) (us.take n)
 |_,_,0,_=>.nil
 |_,_,_+1,.nil=>.nil
 |_,_,n+1,.cons r t=>.cons r (Vals.take n t)
theorem Vals.drop:∀{xs:List V}{us:List lD} (n:Nat),Vals xs us->Vals (xs.drop n) (us.drop n)
 |_,_,0,r=>r
 |_,_,_+1,.nil=>.nil
 |_,_,n+1,.cons _ t=>Vals.drop n t
theorem Vals.none_of:∀{xs:List V}{us:List lD}{i:Nat},Vals xs us->xs[i]?=none->us[i]?=none:=λ{xs us i} r e=>by
 have c:=r.length
 simp_all
noncomputable def RelO:Option V->Option lD->Prop
 |some v,some u=>RelV v u
 |none,none=>True
 |_,_=>False
noncomputable def KV{c:Type}:List (c×V)->List (c×lD)->Prop:=abJ λ(p:c×V) (q:c×lD)=>p.1=q.1/\RelV p.2 q.2
noncomputable def kV:Key->V
 | .inl i=>.int i
 | .inr x=>.str x
inductive HO where
 |lst (xs:List V)
 |tup (xs:List V)
 |dK (kvs:List (Key×V))|dT (kvs:List (List Key×V))
 |set (S:Int->Bool) (n:Nat)
 |ins (C dx:Addr) (fs:List (Str×V))
 |own (x:Addr)
 |xd (fs:List (Str×V))
 |met (f x:Addr)
 |rng (lo hi:Int)
 |frz (o:Obj) (u:HO)
 |tbl (ps:Array lD)
 |ext (φ:aaX->Prop)
noncomputable abbrev Hp:=Addr->Option HO
noncomputable def upd(H:Hp)(a:Addr)(o:HO):Hp:=λb=>if b=a then some o else H b
def ay:upd H a o a=some o:=by unfold upd;rw[if_pos rfl]
def au(h:b≠a):upd H a o b=H b:=by unfold upd;rw[if_neg h]
theorem sU{u:HO}(h:H a=some o)(h':H b=some u)(d:o≠u):a≠b:=by
 intro e;subst e;rw[h]at h';exact d (aal h')
theorem bf(h:H a=some o)(h':H b=none):a≠b:=by grind
noncomputable def PlainT(h:aaX)(a:Addr)(items:Array lD):Prop:=∃o,h.get? a=some o/\o.cls = .type "tuple"/\o.dict=none/\∃n,o.data = .seq items n
theorem PlainT.tup{items:Array lD}(x:PlainT h a items):IsTup h a items:=let ⟨o,e,c,_,d⟩:=x;⟨o,e,c,d⟩
def PlainT.new(h:aaX)(items:Array lD):PlainT (h.push {cls:=.type "tuple",data:=.seq items}) h.objs.size items:=⟨_,aaa _ rfl,rfl,rfl,_,rfl⟩
section
variable (P:aaD) (w:World)
noncomputable def ObjOk(H:Hp)(h:aaX)(a:Addr):HO->Prop
 | .lst d=>d.length≤aad/\∃(c:List lD) (n:Nat),Vals d c/\h.get? a=some {cls:=.type "list",data:=.seq c.toArray n}
 | .tup d=>d.length≤aad/\∃c:List lD,Vals d c/\PlainT h a c.toArray
 | .dK k=>k.length≤aad/\(a==abv)=false/\∃vs,KV k vs/\h.DictOf (cj P w) a vs
 | .dT k=>k.length≤aad/\(a==abv)=false/\∃d:List (List Key×Addr×lD),
   abJ (λ(p:List Key×V) (q:List Key×Addr×lD)=>p.1=q.1/\H q.2.1=some (.tup (p.1.map kV))/\RelV p.2 q.2.2) k d/\
   ∃o es D,h.get? a=some o/\o.ExactDict/\o.data = .dict es D/\es.toList=d.map (entryOfKey (agZ (cj P w)))/\(d.map (·.1)).Nodup
 | .set S n=>h.SetOf (intKind P w) a S n
 | .ins C dx fs=>H dx=some (.own a)/\fs.length≤1000/\dx≠a/\h.get? a=some (PySem.W.instObj C dx)/\
   ∃m,h.Ns1 dx m/\(∀f,RelO (fs.lookup f) (m f))/\PySem.Within m (fs.map (·.1))
 | .own _=>∃o,h.get? a=some o
 | .xd fs=>∃m,h.Ns1 a m/\∀f,RelO (fs.lookup f) (m f)
 | .rng B z=>∃t u v,h.get? a=some {cls:=.type "range",data:=.fields #[.int B t,.int z u,.int 1 v]}
 | .frz o u=>h.get? a=some o/\ObjOk H h a u
 | .tbl ps=>h.get? a=some {cls:=.none,data:=.fields ps}
 | .met f x=>h.get? a=some (PySem.W.methodObj (.ref f) (.ref x))
 | .ext l=>l h/\(∃o,h.get? a=some o)/\∀y s:aaX,l y->(∀o,y.get? a=some o->s.get? a=some o)->l s
noncomputable def HOk(H:Hp)(h:aaX):Prop:=∀a o,H a=some o->ObjOk P w H h a o
end
section
variable {P:aaD}{w:World}{H g:Hp}{h h':aaX}{a:Addr}{o:HO}
theorem ObjOk.lt(x:ObjOk P w H h a o):a<h.objs.size:=by
 cases o with
 |lst c=>let⟨_,_,_,_,e⟩:=x;exact OR e
 |tup c=>let⟨_,_,_,p⟩:=x;exact p.tup.lt
 |dK k=>let⟨_,_,_,_,o,_,_,e,_⟩:=x;exact OR e
 |dT k=>let⟨_,_,_,_,o,_,_,e,_⟩:=x;exact OR e
 |set S n=>let⟨o,_,_,_,e,_⟩:=x;exact OR e
 |ins C dx fs=>let⟨_,_,_,e,_⟩:=x;exact OR e
 |own y=>let⟨_,e⟩:=x;exact OR e
 |xd fs=>let⟨_,⟨_,_,_,e,_⟩,_⟩:=x;exact OR e
 |rng l d=>let⟨_,_,_,e⟩:=x;exact OR e
 |frz m u=>let⟨e,_⟩:=x;exact OR e
 |tbl ps=>exact OR (x)
 |met f y=>exact OR (x)
 |ext q=>let⟨_,⟨_,e⟩,_⟩:=x;exact OR e
theorem Paired.mapP{d β:Type}{F G:d->β->Prop}:∀{l:List d}{c:List β},abJ F l c->(∀a b,F a b->G a b)->abJ G l c
 |_,_,.nil,_=>.nil
 |_,_,.cons r t,f=>.cons (f _ _ r) (Paired.mapP t f)
theorem ObjOk.stay(x:ObjOk P w H h a o)(k:∀b u,(b=a\/H b=some (.own a))->h.get? b=some u->h'.get? b=some u)
  (ho:∀b,H b=some (.own a)->g b=some (.own a)) (J:∀b xs,H b=some (.tup xs)->g b=some (.tup xs)):ObjOk P w g h' a o:=by
 induction o with
 |lst xs=>let⟨z,s,n,r,e⟩:=x;exact⟨z,s,n,r,k _ _ (.inl rfl) e⟩
 |tup xs=>let⟨z,s,r,l,e,c⟩:=x;exact⟨z,s,r,l,k _ _ (.inl rfl) e,c⟩
 |dK F=>let⟨z,y,vs,r,l,es,m,e,c⟩:=x;exact⟨z,y,vs,r,l,es,m,k _ _ (.inl rfl) e,c⟩
 |dT F=>
  let⟨z,y,xs,r,l,es,m,e,c⟩:=x;exact⟨z,y,xs,Paired.mapP r λp q z=>⟨z.1,J _ _ z.2.1,z.2.2⟩,l,es,m,k _ _ (.inl rfl) e,c⟩
 |set S n=>let⟨l,es,m,t,e,c⟩:=x;exact⟨l,es,m,t,k _ _ (.inl rfl) e,c⟩
 |ins C dx fs=>
  let⟨d,z,ne,e,B,⟨D,es,m,G,c⟩,r⟩:=x;exact⟨ho _ d,z,ne,k _ _ (.inl rfl) e,B,⟨D,es,m,k _ _ (.inr d) G,c⟩,r⟩
 |own y=>let⟨l,e⟩:=x;exact⟨l,k _ _ (.inl rfl) e⟩
 |xd fs=>let⟨B,⟨D,es,m,e,c⟩,r⟩:=x;exact⟨B,⟨D,es,m,k _ _ (.inl rfl) e,c⟩,r⟩
 |rng O L=>let⟨t,u,v,e⟩:=x;exact⟨t,u,v,k _ _ (.inl rfl) e⟩
 |frz l u I=>let⟨e,q⟩:=x;exact⟨k _ _ (.inl rfl) e,I q⟩
 |tbl ps=>
  have e:h.get? a=some {cls:=.none,data:=.fields ps}:=x;exact k a _ (.inl rfl) e
 |met f y=>
  have e:=x;exact k a _ (.inl rfl) e
 |ext R=>let⟨p,⟨o,e⟩,st⟩:=x;exact⟨st _ _ p λo q=>k _ _ (.inl rfl) q,⟨o,k _ _ (.inl rfl) e⟩,st⟩
def HOk.lt(x:HOk P w H h)(e:H a=some o):a<h.objs.size:=(x a o e).lt
theorem HOk.fresh(x:HOk P w H h)(e:h.objs.size≤a):H a=none:=by
 cases q:H a with
 |none=>rfl
 |some u=>exact absurd (aan (x.lt q) e) (ac0 _)
theorem HOk.kept(x:HOk P w H h)(k:∀b u,h.get? b=some u->h'.get? b=some u):HOk P w H h':=λa o e=>
 (x a o e).stay (λb u _ q=>k b u q) (λ_ q=>q) λ_ _ q=>q
theorem HOk.laid(x:HOk P w H h)(k:∀b u,h.get? b=some u->h'.get? b=some u)(hp:h.objs.size≤a)(new:ObjOk P w (upd H a o) h' a o):HOk P w (upd H a o) h':=λb u e=>by
 have d:=x.fresh hp
 by_cases hb:b=a
 .subst hb;rw[ay]at e;grind
 .rw[au hb]at e;exact(x b u e).stay (λc v _ q=>k c v q) (λc q=>by rw[au (bf q d)];exact q) λc l q=>by rw[au (bf q d)];exact q
end
noncomputable def Rd(H:Hp)(a:Addr)(u:HO):Prop:=H a=some u\/∃o,H a=some (.frz o u)
theorem Rd.ok{u:HO}(r:Rd H a u)(x:HOk P w H h):ObjOk P w H h a u:=by
 rcases r with r|⟨o,r⟩
 .exact x a u r
 .obtain⟨_,q⟩:=x a _ r;exact q
noncomputable def Mut:Option HO->Prop
 |some (.lst _)=>True
 |some (.dK _)=>True
 |some (.dT _)=>True
 |some (.set _ _)=>True
 |some (.ins _ _ _)=>True
 |some (.ext _)=>True
 |_=>False
section
variable {P:aaD}{w:World}{H:Hp}{h h':aaX}{x e:Addr}{o:HO}
theorem HOk.write(ok:HOk P w H h)(p:Mut (H x))(B:e=x\/H e=some (.own x))(k:∀b u,b≠e->h.get? b=some u->h'.get? b=some u)(s:∃u,h'.get? e=some u)
  (new:ObjOk P w (upd H x o) h' x o):HOk P w (upd H x o) h':=λb u q=>by
 have n:∀c y,H c=some (.own y)->c≠x:=λc y r z=>by subst z;rw[r]at p;exact p
 have l:∀c m,H c=some (.tup m)->c≠x:=λc m r z=>by subst z;rw[r]at p;exact p
 by_cases hb:b=x
 .subst hb;rw[ay]at q;grind
 .rw[au hb]at q
  by_cases d:b=e
  .have q':H b=some (.own x):=by
    rcases B with z|z
    .exact absurd (d.trans z) hb
    .rw[d];exact z
   rw[q]at q';cases q';let⟨v,t⟩:=s;exact⟨v,by rw[d];exact t⟩
  .refine(ok b u q).stay (λc v C r=>k c v ?_ r) (λc r=>by rw[au (n c b r)];exact r) λc m r=>by rw[au (l c m r)];exact r
   grind
end
structure Un(fs ex:List Addr)(H H':Hp)(h h':aaX):Prop where
 keep:∀b o,h.get? b=some o->H b=none->b∉fs->b∉ex->h'.get? b=some o
 slot:∀b o,h.get? b=some o->H b=none->b∈fs->b∉ex->∃sl,h'.get? b=some {o with slots:=sl}
 free:∀b o,h.get? b=some o->H b=none->b∉ex->H' b=none
 there:∀b o,h.get? b=some o->b∉ex->∃o',h'.get? b=some o'
 tups:∀b xs,H b=some (.tup xs)->H' b=some (.tup xs)
 frzs:∀b o u,H b=some (.frz o u)->H' b=some (.frz o u)
 tbls:∀b ps,H b=some (.tbl ps)->∃more,H' b=some (.tbl (ps++more))
section
variable {fs f ex d:List Addr}{H g i:Hp}{h c j h':aaX}{a x e:Addr}{o:HO}
def Un.any(u:Un fs ex H g h c){k:Obj}(q:h.get? b=some k)(n:H b=none)(l:b∉ex):∃s,c.get? b=some {k with slots:=s}:=by
 by_cases hb:b∈fs
 .exact u.slot b k q n hb l
 .exact⟨k.slots,u.keep b k q n hb l⟩
theorem Un.kept(k:∀b u,h.get? b=some u->h'.get? b=some u):Un fs ex H H h h':=
 ⟨λb l q _ _ _=>k b l q,λb l q _ _ _=>⟨l.slots,k b l q⟩,λ_ _ _ n _=>n,λb l q _=>⟨l,k b l q⟩,λ_ _ q=>q,λ_ _ _ q=>q,λ_ ps q=>⟨#[],by rw[q];simp⟩⟩
def Un.refl:Un fs ex H H h h:=Un.kept λ_ _ q=>q
theorem Un.laid(k:∀b u,h.get? b=some u->h'.get? b=some u)(hp:h.objs.size≤a)(l:H a=none):Un fs ex H (upd H a o) h h' where
 keep:=λb u q _ _ _=>k b u q
 slot:=λb u q _ _ _=>⟨u.slots,k b u q⟩
 free:=λb u q n _=>by rw[au (aaS (aan (OR q) hp))];exact n
 there:=λb u q _=>⟨u,k b u q⟩
 tups:=λb m q=>by rw[au (bf q l)];exact q
 frzs:=λb u m q=>by rw[au (bf q l)];exact q
 tbls:=λb ps q=>⟨#[],by rw[au (bf q l),q];simp⟩
theorem Un.write(p:Mut (H x))(C:e=x\/H e=some (.own x))(k:∀b u,b≠e->h.get? b=some u->h'.get? b=some u)(t:∃u,h'.get? e=some u):Un fs ex H (upd H x o) h h':=by
 have y:∀b,H b=none->b≠x:=λb n z=>by subst z;rw[n]at p;exact p
 have hb:∀b,H b=none->b≠e:=λb n z=>by
  simp_all
 have l:∀b u,H b=some u->¬Mut (some u)->b≠x:=λb u q B z=>by subst z;simp_all
 refine⟨λb u q n _ _=>k b u (hb b n) q,λb u q n _ _=>⟨u.slots,k b u (hb b n) q⟩,λb u q n _=>by rw[au (y b n)];exact n,λb u q _=>?_,
  λb s q=>by rw[au (l b _ q λz=>z)];exact q,λb u s q=>by rw[au (l b _ q λz=>z)];exact q,λb ps q=>⟨#[],by rw[au (l b _ q λz=>z),q];simp⟩⟩
 by_cases m:b=e
 .simp_all
 .exact⟨u,k b u m q⟩
end
noncomputable def trk(h:aaX)(H:Hp):List Addr:=(aaw h.objs.size).filter λa=>(H a).isSome
noncomputable def hidT(h:aaX)(H:Hp):aaX:=PySem.W.hideAll h (trk h H)
def wG(h:aaX)(H:Hp):(hidT h H).objs.size=h.objs.size:=PySem.W.hideAll_size _ _
def CB{o:Obj}(e:h.get? b=some o)(n:H b=none):(hidT h H).get? b=some o:=
 PySem.W.hideAll_get _ e λc=>by
  have q:=(List.mem_filter.mp c).2;rw[n]at q;simp at q
theorem Im{o:Obj}(e:(hidT h H).get? b=some o):h.get? b=some o/\H b=none:=by
 have c:=PySem.W.of_hideAll _ e;refine⟨c,?_⟩
 cases q:H b with
 |none=>rfl
 |some x=>
  have d:b∈trk h H:=List.mem_filter.mpr ⟨agI.mpr (OR c),by simp[q]⟩;have z:(hidT h H).get? b=none:=PySem.W.hideAll_none _ d
  grind
structure Mod(K:LD)(mg:Str->Option lD)(base:aaX):Prop where
 kin:K.In base
 glob:base.Ns aaK mg
 blt:∃mb,base.Ns builtinsNs mb/\∀x:Str,x ≠ "__name__" -> mb x=abb x
 nolimit:base.NoLimit
 sys:∃m,base.Ns abv m
inductive Ao where
 |L (a:Addr)|T (t:List (List Nat×Addr))
structure EB where
 np:Nat
 be:List Ao
 H:Hp
structure Cx where
 prog:aaD
 w:World
 K:LD
 mg:Str->Option lD
 base:aaX
 A:aa6
 N:List Str
 s₀:mT
 H₀:Hp
 env:Env
 outer:List Env
 stack:List Env
 ex:List Addr
 fn:Str->Bool
 calm:Bool
 pn:List (Addr×Obj)
 xe:lD->mT->Prop
 eb:EB:=⟨0,[],λ_=>none⟩
noncomputable def frs(l:List Env):List Addr:=l.filterMap (·.frame)
noncomputable abbrev Cx.fs(X:Cx):List Addr:=frs X.outer
noncomputable def Vis(sc:Scope)(x:Str):Prop:=sc.names.lookup x=some .local\/sc.names.lookup x=some .cell\/sc.names.lookup x=some .free
noncomputable def Loc(sc:Scope)(x:Str):Prop:=sc.names.lookup x=some .local\/sc.names.lookup x=some .cell
noncomputable def Look(env:Env)(h:aaX)(m:Str->Option lD)(x:Str)(u:lD):Prop:=
 (env.kindOf x=some .local/\m x=some u)\/((env.kindOf x=some .cell\/env.kindOf x=some .free)/\∃c,env.cells.lookup x=some c/\h.IsCell c (some u))
structure Cx.Ok(X:Cx):Prop where
 mod:Mod X.K X.mg X.base
 kind:X.env.scope.kind = .function
 glob:X.env.globals=aaK
 blt:X.env.builtins=builtinsNs
 above:X.s₀.heap.objs.size≤X.env.locals
 inj:∀x y c,X.env.cells.lookup x=some c->X.env.cells.lookup y=some c->x=y
 has:∀x,(X.env.kindOf x=some .cell\/X.env.kindOf x=some .free)->∃c,X.env.cells.lookup x=some c
 cab:∀x c,X.fn x=true->X.env.cells.lookup x=some c->X.s₀.heap.objs.size≤c
 hd:X.calm=true->X.A.handled=none
 frames:X.A.frames=some X.stack
 stk:X.stack=X.outer\/(X.stack=X.env::X.outer/\X.env.frame=some X.env.locals)
 exf:∀b∈X.ex,b≠X.env.locals/\∀x c,X.env.cells.lookup x=some c->c≠b
 bs:∀b o,X.base.get? b=some o->X.s₀.heap.get? b=some o/\X.H₀ b=none
 bsz:X.base.objs.size≤X.s₀.heap.objs.size
 noex:∀b o,X.base.get? b=some o->b∉X.ex
 exfs:∀b∈X.ex,b∉X.fs
 funs:X.s₀.heap.FunFrames X.base X.outer
 frf:∀b∈X.fs,X.H₀ b=none
structure Inv(X:Cx)(pins:List (Addr×Obj))(σ:List (Option V))(H:Hp)(s:mT):Prop where
 ok:X.Ok
 os:s.os=X.s₀.os
 bare:afH s.gens
 base:Un X.fs X.ex X.H₀ H X.s₀.heap s.heap
 loc:∃m,s.heap.Ns X.env.locals m/\∀(i:Nat) (x:Str) (v:V),X.N[i]?=some x->σ[i]?=some (some v)->Vis X.env.scope x->∃u,RelV v u/\Look X.env s.heap m x u
 cell:∀x c,X.env.cells.lookup x=some c->∃v,s.heap.IsCell c v
 free:H X.env.locals=none
 freeC:∀x c,X.env.cells.lookup x=some c->H c=none
 pin:∀p∈X.pn++pins,s.heap.get? p.1=some p.2/\H p.1=none/\p.1≠X.env.locals/\p.1∉X.fs/\∀v,p.2.data≠.cell v
 hok:HOk X.prog X.w H s.heap
 len:σ.length=X.N.length
section
variable {X:Cx}{f:List (Addr×Obj)}{g:List (Option V)}{H w:Hp}{s:mT}{h':aaX}
theorem Cx.Ok.nofr(ok:X.Ok){o:Obj}(e:X.base.get? b=some o):b∉X.fs:=λhb=>by
 have:=(ok.funs.mem hb).1
 grind
theorem Inv.bs(I:Inv X f g H s):∀b o,X.base.get? b=some o->s.heap.get? b=some o/\H b=none:=λb o e=>
 ⟨I.base.keep b o (I.ok.bs b o e).1 (I.ok.bs b o e).2 (I.ok.nofr e) (I.ok.noex b o e),I.base.free b o (I.ok.bs b o e).1 (I.ok.bs b o e).2 (I.ok.noex b o e)⟩
theorem Inv.bk(I:Inv X f g H s):∀b o,X.base.get? b=some o->s.heap.get? b=some o:=λb o e=>(I.bs b o e).1
def Inv.mod(I:Inv X f g H s):Mod X.K X.mg X.base:=I.ok.mod
def Inv.kIn(I:Inv X f g H s):X.K.In s.heap:=I.ok.mod.kin.keeps I.bk
def Inv.lt(I:Inv X f g H s):X.env.locals<s.heap.objs.size:=let ⟨_,hn,_⟩:=I.loc;hn.lt
def Inv.sz(I:Inv X f g H s):X.s₀.heap.objs.size≤s.heap.objs.size:=aak I.ok.above (aaN I.lt)
theorem Inv.nofs(I:Inv X f g H s)(h:s.heap.objs.size≤a):a∉X.fs:=λhb=>by
 let⟨_,o,ho,_⟩:=I.ok.funs.mem hb;exact absurd (aan (OR ho) (aak I.sz h)) (ac0 _)
theorem Inv.cne(I:Inv X f g H s):∀x c,X.env.cells.lookup x=some c->c≠X.env.locals:=λx c e z=>by
 let⟨v,o,ho,hd⟩:=I.cell x c e;let⟨m,⟨n,es,l,k,d,_⟩,_⟩:=I.loc
 grind
theorem Inv.funs(I:Inv X f g H s):s.heap.FunFrames X.base X.outer:=by
 have all:∀l,(∀b∈frs l,b∈X.fs)->X.s₀.heap.FunFrames X.base l->s.heap.FunFrames X.base l:=by
  intro l
  induction l with
  |nil=>intro _ _;trivial
  |cons env r n=>
   intro hs m;let⟨k,⟨L,o,c,p,ho,hd⟩,hr⟩:=m;have d:=hs L (by unfold frs;rw[aff,c];exact Io);let⟨q,e⟩:=I.base.slot L o ho (I.ok.frf L d) d λz=>I.ok.exfs L z d;exact⟨k,⟨L,_,c,p,e,hd⟩,n (λb hb=>hs b (by unfold frs;rw[aff,c];exact Ge _ hb)) hr⟩
 exact all X.outer (λ_ hb=>hb) I.ok.funs
theorem Inv.stack(I:Inv X f g H s):s.heap.FunFrames X.base X.stack:=by
 rcases I.ok.stk with e|⟨e,c⟩
 .rw[e];exact I.funs
 .rw[e];let⟨m,d,_⟩:=I.loc;refine .cons (by rw[I.ok.kind];decide) c d ?_ I.funs;exact aaX.get?_none_of_le (aak I.ok.bsz I.ok.above)
theorem Inv.stkSub(I:Inv X f g H s):∀b∈frs X.stack,b∈X.env.locals::X.fs:=λb hb=>by
 rcases I.ok.stk with e|⟨e,c⟩
 .rw[e]at hb;exact Ge _ hb
 .rw[e]at hb;unfold frs at hb;rw[aff,c]at hb;exact hb
theorem Inv.stkFree(I:Inv X f g H s):∀b∈frs X.stack,H b=none:=λb hb=>by
 rcases aam.mp (I.stkSub b hb)with e|hb
 .rw[e];exact I.free
 .obtain⟨_,o,ho,_⟩:=I.ok.funs.mem hb;exact I.base.free b o ho (I.ok.frf b hb) λz=>I.ok.exfs b z hb
theorem Inv.step{d':Drawn}(I:Inv X f g H s)
  (C:∀b∈ch,(b∈X.ex\/X.s₀.heap.objs.size≤b)/\b≠X.env.locals/\(∀x c,X.env.cells.lookup x=some c->c≠b)/\∀p∈X.pn++f,p.1≠b)
  (keep:∀b o,b≠X.env.locals->b∉X.fs->b∉ch->s.heap.get? b=some o->H b=none->h'.get? b=some o)
  (slot:∀b o,b≠X.env.locals->b∈X.fs->b∉ch->s.heap.get? b=some o->H b=none->∃R,h'.get? b=some {o with slots:=R}) (free:∀b o,b∉ch->s.heap.get? b=some o->H b=none->w b=none)
  (there:∀b o,b∉ch->s.heap.get? b=some o->∃L,h'.get? b=some L)
  (tups:∀b xs,H b=some (.tup xs)->w b=some (.tup xs)) (frzs:∀b o u,H b=some (.frz o u)->w b=some (.frz o u)) (tbls:∀b ps,H b=some (.tbl ps)->∃more,w b=some (.tbl (ps++more)))
  (ns:∀m,s.heap.Ns X.env.locals m->h'.Ns X.env.locals m) (hok:HOk X.prog X.w w h') (T:afH g') :
  Inv X f g w {s with heap:=h',gens:=g',drawn:=d',toks:=t' }:=by
 have G:∀b o,X.s₀.heap.get? b=some o->b≠X.env.locals:=λb o e=>aaS (aan (OR e) I.ok.above);have D:∀b o,X.s₀.heap.get? b=some o->b∉X.ex->b∉ch:=λb o e t hb=>by
  rcases (C b hb).1 with z|z
  .exact t z
  .exact absurd (aan (OR e) z) (ac0 _)
 have B:∀x c,X.env.cells.lookup x=some c->∀v,s.heap.IsCell c v->h'.IsCell c v:=by
  intro x c e v ⟨o,ho,hd⟩;have y:c∉ch:=λz=>(C c z).2.2.1 x c e rfl
  by_cases S:c∈X.fs
  .obtain⟨R,q⟩:=slot c o (I.cne x c e) S y ho (I.freeC x c e);exact⟨_,q,hd⟩
  .exact⟨o,keep c o (I.cne x c e) S y ho (I.freeC x c e),hd⟩
 refine⟨I.ok,I.os,T,⟨λb o e n hb t=>?_,λb o e n hb t=>?_,λb o e n t=>?_,λb o e t=>?_,λb xs e=>tups b xs (I.base.tups b xs e),λb o xs e=>frzs b o xs (I.base.frzs b o xs e),λb ps e=>?_⟩,?_,λx c e=>?_,?_,λx c e=>?_,λp hp=>?_,hok,I.len⟩
 .exact keep b o (G b o e) hb (D b o e t) (I.base.keep b o e n hb t) (I.base.free b o e n t)
 .obtain⟨R,F⟩:=I.base.slot b o e n hb t;let⟨O,J⟩:=slot b _ (G b o e) hb (D b o e t) F (I.base.free b o e n t);exact⟨O,J⟩
 .obtain⟨L,F⟩:=I.base.there b o e t;exact free b L (D b o e t) F (I.base.free b o e n t)
 .obtain⟨L,F⟩:=I.base.there b o e t;exact there b L (D b o e t) F
 .obtain⟨m1,F⟩:=I.base.tbls b ps e;let⟨m2,J⟩:=tbls b _ F;exact⟨m1++m2,by rw[J,Array.append_assoc]⟩
 .obtain⟨m,hn,hl⟩:=I.loc;refine⟨m,ns m hn,λi x v F J U=>?_⟩;let⟨u,r,l⟩:=hl i x v F J U;refine⟨u,r,?_⟩;rcases l with l|⟨k,c,e,z⟩
  .exact .inl l
  .exact .inr ⟨k,c,e,B x c e _ z⟩
 .obtain⟨v,z⟩:=I.cell x c e;exact⟨v,B x c e v z⟩
 .obtain⟨m,⟨o,_,_,ho,_⟩,_⟩:=I.loc;exact free _ o (λz=>(C _ z).2.1 rfl) ho I.free
 .obtain⟨v,o,ho,hd⟩:=I.cell x c e;exact free c o (λz=>(C c z).2.2.1 x c e rfl) ho (I.freeC x c e)
 .obtain⟨e,n,ne,nf,d⟩:=I.pin p hp;have y:p.1∉ch:=λz=>(C p.1 z).2.2.2 p hp rfl;exact⟨keep p.1 p.2 ne nf y e n,free p.1 p.2 y e n,ne,nf,d⟩
theorem Inv.un(I:Inv X f g H s)(u:Un X.fs [] H w s.heap h')(hok:HOk X.prog X.w w h'):Inv X f g w {s with heap:=h',toks:=t' }:=by
 let⟨m,⟨o,es,t,ho,r⟩,_⟩:=id I.loc;let⟨B,l⟩:=u.any ho I.free (by simp);exact I.step (g':=s.gens) (d':=s.drawn) (ch:=[]) (λ_ z=>nomatch z) (λb o _ hb _ e n=>u.keep b o e n hb (by simp)) (λb o _ hb _ e n=>u.slot b o e n hb (by simp)) (λb o _ e n=>u.free b o e n (by simp)) (λb o _ e=>u.there b o e (by simp)) u.tups u.frzs u.tbls (λC q=>by
  let⟨y,d,k,c,p⟩:=q;rw[ho]at c;cases c;exact⟨_,d,k,l,p⟩) hok I.bare
theorem Inv.call{d':Drawn}(I:Inv X f g H s)(u:Un (frs X.stack) ch H w s.heap h')(hok:HOk X.prog X.w w h')(C:afH g')
  (k:∀b∈ch,(b∈X.ex\/X.s₀.heap.objs.size≤b)/\b≠X.env.locals/\(∀x c,X.env.cells.lookup x=some c->c≠b)/\∀p∈X.pn++f,p.1≠b) :
  Inv X f g w {s with heap:=h',gens:=g',drawn:=d',toks:=t' }:=by
 let⟨m,⟨o,es,J,ho,r⟩,_⟩:=id I.loc;let⟨F,q⟩:=u.any ho I.free λz=>(k _ z).2.1 rfl;exact I.step k (λb o q hb d e n=>u.keep b o e n (λz=>(aam.mp (I.stkSub b z)).elim q hb) d) (λb o _ _ d e n=>u.any e n d) (λb o d e n=>u.free b o e n d) (λb o d e=>u.there b o e d) u.tups u.frzs u.tbls (λG D=>by
  let⟨L,t,y,l,B⟩:=D;rw[ho]at l;cases l;exact⟨_,t,y,q,B⟩) hok C
theorem Inv.turned{d:Addr}(I:Inv X f g H s)(k:∀b o,b≠d->s.heap.get? b=some o->h'.get? b=some o)(G:H d=none)(y:d≠X.env.locals)
  (C:d∈X.ex\/X.s₀.heap.objs.size≤d) (B:∀x c,X.env.cells.lookup x=some c->c≠d) (D:∀p∈X.pn++f,p.1≠d):Inv X f g H {s with heap:=h',toks:=t' }:=by
 have t:∀b u,H b=some u->b≠d:=λb u e z=>by rw[z,G]at e;cases e
 refine I.step (g':=s.gens) (d':=s.drawn) (ch:=[d]) (λb hb=>?_) (λb o _ _ l e _=>k b o (λz=>l (by simp[z])) e) (λb o _ _ l e _=>⟨o.slots,k b o (λz=>l (by simp[z])) e⟩) (λ_ _ _ _ n=>n)
  (λb o l e=>⟨o,k b o (λz=>l (by simp[z])) e⟩) (λ_ _ e=>e) (λ_ _ _ e=>e) (λb ps e=>⟨#[],by rw[e];simp⟩) (λm F=>?_) (λb u e=>?_) I.bare
 .have e:=by simpa using hb
  subst e;exact⟨C,y,B,D⟩
 .obtain⟨o,es,ep,ho,r⟩:=F;exact⟨o,es,ep,k _ o (abf y) ho,r⟩
 .refine(I.hok b u e).stay (λc v l q=>k c v ?_ q) (λ_ q=>q) λ_ _ q=>q;rcases l with z|z
  .rw[z];exact t b u e
  .exact t c _ z
theorem Inv.tok(I:Inv X f g H s)(t:Nat):Inv X f g H {s with toks:=t}:=I.un (h':=s.heap) (t':=t) Un.refl I.hok
theorem Inv.kept(I:Inv X f g H s)(k:∀b u,s.heap.get? b=some u->h'.get? b=some u):Inv X f g H {s with heap:=h',toks:=t' }:=I.un (Un.kept k) (I.hok.kept k)
theorem Inv.laid(I:Inv X f g H s)(k:∀b u,s.heap.get? b=some u->h'.get? b=some u)(hp:s.heap.objs.size≤a)(new:ObjOk X.prog X.w (upd H a o) h' a o) :
  Inv X f g (upd H a o) {s with heap:=h',toks:=t' }:=I.un (Un.laid k hp (I.hok.fresh hp)) (I.hok.laid k hp new)
theorem Inv.write{x e:Addr}(I:Inv X f g H s)(m:Mut (H x))(d:e=x\/H e=some (.own x))(k:∀b u,b≠e->s.heap.get? b=some u->h'.get? b=some u)(c:∃u,h'.get? e=some u)
  (new:ObjOk X.prog X.w (upd H x o) h' x o):Inv X f g (upd H x o) {s with heap:=h',toks:=t' }:=I.un (Un.write m d k c) (I.hok.write m d k c new)
def Inv.pins_of{c:List (Addr×Obj)}(I:Inv X f g H s)(h:∀p∈c,s.heap.get? p.1=some p.2/\H p.1=none/\p.1≠X.env.locals/\p.1∉X.fs/\∀v,p.2.data≠.cell v):Inv X c g H s:=
 ⟨I.ok,I.os,I.bare,I.base,I.loc,I.cell,I.free,I.freeC,λp hp=>(aaO.mp hp).elim (λz=>I.pin p (aeR _ z)) (h p),I.hok,I.len⟩
def uI(k:N.Nodup)(a:N[i]?=some x)(b:N[j]?=some x):i=j:=by
 let⟨m,d⟩:=DL.mp a;let⟨l,c⟩:=DL.mp b;exact(List.getElem_inj k).mp (d.trans c.symm)
theorem qF{Q:Unit->mT->Prop}(I:Inv X f g H s)(hN:X.N.Nodup)(hi:X.N[i]?=some x)(C:Loc X.env.scope x)(r:RelV v u)
  (h:∀s',Inv X f (g.set i (some v)) H s'->(∃a,abk a s.heap s'.heap/\(a=X.env.locals\/X.env.cells.lookup x=some a))->Q () s') (hf:X.fn x=true\/X.env.scope.names.lookup x=some .local:=by first|exact .inl rfl|exact .inr rfl|assumption):wpAny M A (storeName X.env x u) Q E s:=by
 let⟨m,Y,hl⟩:=id I.loc;have R:(X.env.scope.kind == .class||(X.env.scope.kind == .module&&X.env.locals != X.env.globals))=false:=by rw[I.ok.kind];rfl
 have G:i<g.length:=by rw[I.len];exact(DL.mp hi).1
 have cne:=I.cne;have t:∀{a:Addr}{h':aaX},(∃o,s.heap.get? a=some o/\H a=none)->abk a s.heap h'->HOk X.prog X.w H h':=λ{a h'} ha hs b ob e=>by
  let⟨_,_,D⟩:=ha;refine(I.hok b ob e).stay (λc T B q=>(hs.2 c ?_).trans q) (λ_ q=>q) λ_ _ q=>q;rintro rfl;rcases B with rfl|B
  .rw[D]at e;cases e
  .rw[D]at B;cases B
 rcases C with J|J
 .refine wpAny_storeName_local J Y (λh' hn' hs=>?_) R;let⟨oL,_,_,hoL,_⟩:=id Y;refine h _ ⟨I.ok,I.os,I.bare,⟨λb o e n hb C=>?_,λb o e n hb C=>?_,I.base.free,λb o e C=>?_,I.base.tups,I.base.frzs,I.base.tbls⟩,⟨_,hn',λj y Z l F e3=>?_⟩,λy c e=>?_,I.free,I.freeC,λp hp=>?_,t ⟨oL,hoL,I.free⟩ hs,by simpa using I.len⟩ ⟨_,hs,.inl rfl⟩
  .exact(hs.2 b (aaS (aan (OR e) I.ok.above))).trans (I.base.keep b o e n hb C)
  .obtain⟨sl,l⟩:=I.base.slot b o e n hb C;exact⟨sl,(hs.2 b (aaS (aan (OR e) I.ok.above))).trans l⟩
  .obtain⟨o',l⟩:=I.base.there b o e C;exact⟨o',(hs.2 b (aaS (aan (OR e) I.ok.above))).trans l⟩
  .by_cases hj:j=i
   .subst hj;rw[hi]at l;cases l;rw[aaI G]at F;cases F;exact⟨u,r,.inl ⟨J,by simp⟩⟩
   .rw[aaC (abf hj)]at F;let⟨V,W,q⟩:=hl j y Z l F e3;refine⟨V,W,?_⟩;rcases q with⟨k,e⟩|⟨k,c,e,z⟩
    .refine .inl ⟨k,?_⟩;have:y≠x:=λe=>hj (uI hN l (e▸hi));simp[this,e]
    .exact .inr ⟨k,c,e,z.sameBut hs (cne y c e)⟩
  .obtain⟨T,z⟩:=I.cell y c e;exact⟨T,z.sameBut hs (cne y c e)⟩
  .obtain⟨e,n,ne,nf,d⟩:=I.pin p hp;exact⟨(hs.2 p.1 ne).trans e,n,ne,nf,d⟩
 .have hfn:X.fn x=true:=by
   rcases hf with z|z
   .exact z
   .rw[z]at J;cases J
  let⟨c,B⟩:=I.ok.has x (.inl J);let⟨T,z⟩:=I.cell x c B;refine wpAny_storeName_cell I.ok.kind J B z (λh' O hs=>?_);let⟨oc,L,S⟩:=id z;refine h {s with heap:=h' } ⟨I.ok,I.os,I.bare,⟨λb o e n hb C=>?_,λb o e n hb C=>?_,I.base.free,λb o e C=>?_,I.base.tups,I.base.frzs,I.base.tbls⟩,⟨m,Y.sameBut hs (abf (cne x c B)),λj y Z l F e3=>?_⟩,λy U e=>?_,I.free,I.freeC,λp hp=>?_,t ⟨oc,L,I.freeC x c B⟩ hs,by simpa using I.len⟩ ⟨c,hs,.inr B⟩
  .exact(hs.2 b (aaS (aan (OR e) (I.ok.cab x c hfn B)))).trans (I.base.keep b o e n hb C)
  .obtain⟨sl,l⟩:=I.base.slot b o e n hb C;exact⟨sl,(hs.2 b (aaS (aan (OR e) (I.ok.cab x c hfn B)))).trans l⟩
  .obtain⟨o',l⟩:=I.base.there b o e C;exact⟨o',(hs.2 b (aaS (aan (OR e) (I.ok.cab x c hfn B)))).trans l⟩
  .by_cases hj:j=i
   .subst hj;rw[hi]at l;cases l;rw[aaI G]at F;cases F;exact⟨u,r,.inr ⟨.inl J,c,B,O⟩⟩
   .rw[aaC (abf hj)]at F;let⟨V,W,q⟩:=hl j y Z l F e3;refine⟨V,W,?_⟩;rcases q with q|⟨k,U,e,z'⟩
    .exact .inl q
    .refine .inr ⟨k,U,e,z'.sameBut hs ?_⟩;rintro rfl;exact hj (uI hN l (I.ok.inj _ _ _ e B▸hi))
  .by_cases hcc:U=c
   .subst hcc;exact⟨_,O⟩
   .obtain⟨w2,z2⟩:=I.cell y U e;exact⟨w2,z2.sameBut hs hcc⟩
  .obtain⟨e,n,ne,nf,d⟩:=I.pin p hp;refine⟨(hs.2 p.1 ?_).trans e,n,ne,nf,d⟩;intro q;rw[q,L]at e;have q':oc=p.2:=aal e;exact d T (by rw[<-q'];exact S)
theorem jL{Q:Unit->mT->Prop}(I:Inv X f g H s)(k:X.N.Nodup)(hi:X.N[i]?=some x)(l:Loc X.env.scope x)(r:RelV v u)
  (h:∀s',Inv X f (g.set i (some v)) H s'->Q () s') (c:X.fn x=true\/X.env.scope.names.lookup x=some .local:=by first|exact .inl rfl|exact .inr rfl|assumption):wpAny M A (storeName X.env x u) Q E s:=
 qF I k hi l r (λs' d _=>h s' d) c
theorem Inv.call'{s':mT}(I:Inv X f g H s)(ho:s'.os=s.os)(u:Un (frs X.stack) ch H w s.heap s'.heap)(hok:HOk X.prog X.w w s'.heap)(k:afH s'.gens)
  (d:∀b∈ch,(b∈X.ex\/X.s₀.heap.objs.size≤b)/\b≠X.env.locals/\(∀x c,X.env.cells.lookup x=some c->c≠b)/\∀p∈X.pn++f,p.1≠b):Inv X f g w s':=by
 let⟨h',g',d',t',l⟩:=s';have e:=ho;subst e;exact I.call (g':=g') (t':=t') (d':=d') u hok k d
end
noncomputable abbrev XK:=lD->Option Addr->Hp->Prop
noncomputable abbrev St:=List (Option V)
noncomputable abbrev VK:=V->Hp->Prop
noncomputable abbrev TE:=St->Hp->VK->Prop
noncomputable abbrev TT:=St->Hp->(Bool->Hp->Prop)->Prop
noncomputable abbrev TA:=St->Hp->(List V->Hp->Prop)->Prop
structure Ends where
 nx:St->Hp->Prop
 rt:VK
 bk:St->Hp->Prop:=λ_ _=>False
 ct:St->Hp->Prop:=λ_ _=>False
noncomputable abbrev TS:=Ends->St->Hp->Prop
noncomputable def EP(X:Cx)(pins:List (Addr×Obj))(σ:St)(Q:VK)(u:lD)(s':mT):Prop:=∃v c,Inv X pins σ c s'/\RelV v u/\Q v c
noncomputable def TP(X:Cx)(pins:List (Addr×Obj))(σ:St)(Q:Bool->Hp->Prop)(b:Bool)(s':mT):Prop:=∃c,Inv X pins σ c s'/\Q b c
noncomputable def AP(X:Cx)(pins:List (Addr×Obj))(σ:St)(Q:List V->Hp->Prop)(us:List lD)(s':mT):Prop:=∃vs c,Inv X pins σ c s'/\Vals vs us/\Q vs c
noncomputable def SP(X:Cx)(pins:List (Addr×Obj))(D:Ends)(f:Flow)(s':mT):Prop:=
 match f with
 | .next=>∃c d,Inv X pins c d s'/\D.nx c d
 | .brk=>∃c d,Inv X pins c d s'/\D.bk c d
 | .cont=>∃c d,Inv X pins c d s'/\D.ct c d
 | .ret u=>∃v c d,Inv X pins c d s'/\RelV v u/\D.rt v d
noncomputable def PE(X:Cx)(e:Expr)(t:TE):Prop:=
 ∀(pins:List (Addr×Obj)) (s:mT) (σ:St) (H:Hp) (Q:VK),Inv X pins σ H s->t σ H Q->wpAny (model X.prog X.w) X.A (eval e X.env) (EP X pins σ Q) X.xe s
noncomputable def PT(X:Cx)(e:Expr)(t:TT):Prop:=
 ∀(pins:List (Addr×Obj)) (s:mT) (σ:St) (H:Hp) (Q:Bool->Hp->Prop),Inv X pins σ H s->t σ H Q->wpAny (model X.prog X.w) X.A (isTrue e X.env (eval e X.env)) (TP X pins σ Q) X.xe s
noncomputable def PW(X:Cx)(e:Expr)(t:TT):Prop:=
 ∀(c:Sem lD) (pins:List (Addr×Obj)) (s:mT) (σ:St) (H:Hp) (Q:Bool->Hp->Prop),Inv X pins σ H s->t σ H Q->wpAny (model X.prog X.w) X.A (isTrue e X.env c) (TP X pins σ Q) X.xe s
def PW.pt{t:TT}(h:PW X e t):PT X e t:=h _
noncomputable def PA(X:Cx)(es:List Expr)(t:TA):Prop:=
 ∀(pos:Pos) (pins:List (Addr×Obj)) (s:mT) (σ:St) (H:Hp) (Q:List V->Hp->Prop),Inv X pins σ H s->t σ H Q->wpAny (model X.prog X.w) X.A (spliced (acg pos (aac es X.env))) (AP X pins σ Q) X.xe s
noncomputable def PS(X:Cx)(st:Stmt)(t:TS):Prop:=
 ∀(pins:List (Addr×Obj)) (s:mT) (σ:St) (H:Hp) (D:Ends),Inv X pins σ H s->t D σ H->wpAny (model X.prog X.w) X.A (exec st X.env) (SP X pins D) X.xe s
noncomputable def PSs(X:Cx)(st:List Stmt)(t:TS):Prop:=
 ∀(pins:List (Addr×Obj)) (s:mT) (σ:St) (H:Hp) (D:Ends),Inv X pins σ H s->t D σ H->wpAny (model X.prog X.w) X.A (execs st X.env) (SP X pins D) X.xe s
theorem thn{d:Type}{t:Sem d}{Q c:d->mT->Prop}{s:mT}(h:wpAny M A t Q E s)(k:∀a s,Q a s->c a s):wpAny M A t c E s:=acy h k λ_ _ x=>x
section
variable {X:Cx}
noncomputable def tVar(i:Nat):TE:=λσ H Q=>∃v,σ[i]?=some (some v)/\Q v H
noncomputable def tC(v:V):TE:=λ_ H Q=>Q v H
theorem P8(y:X.N[i]?=some x)(q:Vis X.env.scope x)(hd:(x==("__debug__" : Str))=false:=by decide)(n:(x==("__classdict__" : Str))=false:=by decide):PE X (.Name x pos) (tVar i):=by
 intro pins s σ H Q I h;let⟨v,e,h⟩:=h;let⟨m,B,t⟩:=I.loc;let⟨u,r,l⟩:=t i x v y e q;have fin:EP X pins σ Q u s:=⟨v,H,I,r,h⟩;rcases l with⟨k,z⟩|⟨k,c,p,d⟩
 .exact wpAny_Name (wpAny_loadName_local I.ok.kind k B z fin) hd
 .rcases k with k|k
  .exact wpAny_Name (wpAny_loadName_cell I.ok.kind k p d fin) hd
  .exact wpAny_Name (wpAny_loadName_free I.ok.kind k p d fin n) hd
theorem Kz{i j pos}:PE X (.Constant (.int i) j pos) (tC (.int i)):=λ_ _ _ H _ I h=>wpAny_Constant_int ⟨.int i,H,I.tok _,⟨_,rfl⟩,h⟩
theorem Qm{b j pos}:PE X (.Constant (.bool b) j pos) (tC (.bl b)):=λ_ _ _ H _ I h=>Constant_bool ⟨.bl b,H,I,rfl,h⟩
theorem Pc{j pos}:PE X (.Constant .none j pos) (tC .non):=λ_ _ _ H _ I h=>Constant_none ⟨.non,H,I,rfl,h⟩
theorem Qe{x j pos}:PE X (.Constant (.str x) j pos) (tC (.str x)):=λ_ _ _ H _ I h=>Calls.Constant_str ⟨.str x,H,I.tok _,⟨_,rfl⟩,h⟩
noncomputable def Gl(X:Cx)(x:Str):Prop:=X.env.kindOf x=some .globalImplicit
theorem yx{s:mT}(I:Inv X pins σ H s)(d:Gl X x)(c:X.mg x=some u)(h:Q u s)
  (hd:(x==("__debug__" : Str))=false:=by decide):wpAny (model X.prog X.w) X.A (eval (.Name x pos) X.env) Q E s:=
 afn I.ok.kind d (Calls.loadGlobal_global (by rw[I.ok.glob];exact I.mod.glob.keeps I.bk) c h) hd
theorem l8{s:mT}(I:Inv X pins σ H s)(m:Gl X x)(n:X.mg x=none)(c:abb x=some u)(h:Q u s)
  (k:x ≠ "__name__":=by decide) (hd:(x==("__debug__" : Str))=false:=by decide):wpAny (model X.prog X.w) X.A (eval (.Name x pos) X.env) Q E s:=by
 let⟨mb,l,d⟩:=I.mod.blt;exact afn I.ok.kind m (Calls.loadGlobal_builtin (by rw[I.ok.glob];exact I.mod.glob.keeps I.bk) n (by rw[I.ok.blt];exact l.keeps I.bk) ((d x k).trans c) h) hd
theorem Jt(d:Gl X x)(c:X.mg x=some u)(r:RelV v u)(hd:(x==("__debug__" : Str))=false:=by decide):PE X (.Name x pos) (tC v):=
 λ_ _ _ H _ I h=>yx I d c ⟨v,H,I,r,h⟩ hd
variable {a b:Expr}{ta tb:TE}{pos:Pos}
noncomputable def tB(t:TE):TT:=λσ H Q=>t σ H λx d=>∃c,x = .bl c/\Q c d
theorem Nq{t:TE}(h:PE X e t)(m:∀c,isTrue e X.env c=(do let v <- c;adw e.pos;adx [v] (truthy v)):=by intro _;rfl):PT X e (tB t):=by
 intro pins s σ H Q I n;refine isTrue_plain (thn (h pins s σ H _ I n) λv s1 ⟨x,l,p,r1,k⟩=>?_) (m _);let⟨d,rfl,q⟩:=k;cases r1;exact wpAny_truthy_bool ⟨l,p,q⟩
variable {f g:TT}{rest:List Expr}
noncomputable def tAnd(t u:TT):TT:=λσ H Q=>t σ H λc d=>if c=true then u σ d Q else Q false d
noncomputable def tOr(t u:TT):TT:=λσ H Q=>t σ H λc d=>if c=true then Q true d else u σ d Q
noncomputable def tNot(t:TT):TT:=λσ H Q=>t σ H λc d=>Q (!c) d
theorem I9(ha:PT X a f):PW X (.BoolOp .And [a] pos) f:=by
 intro d pins s σ H Q I h;refine isTrue_and (thn (ha pins s σ H Q I h) λc s1 e=>?_)
 cases c with
 |true=>exact isTrue_and_nil e
 |false=>exact e
theorem N9(ha:PT X a f):PW X (.BoolOp .Or [a] pos) f:=by
 intro d pins s σ H Q I h;refine isTrue_or (thn (ha pins s σ H Q I h) λc s1 e=>?_)
 cases c with
 |false=>exact isTrue_or_nil e
 |true=>exact e
theorem LH(ha:PT X a f)(hb:PW X (.BoolOp .And (b::rest) pos) g):PW X (.BoolOp .And (a::b::rest) pos) (tAnd f g):=by
 intro l pins s σ H Q I h;refine isTrue_and (thn (ha pins s σ H _ I h) λc s1 ⟨k,d,q⟩=>?_)
 cases c with
 |true=>exact hb l pins s1 σ k Q d q
 |false=>exact⟨k,d,q⟩
theorem QL(ha:PT X a f)(hb:PW X (.BoolOp .Or (b::rest) pos) g):PW X (.BoolOp .Or (a::b::rest) pos) (tOr f g):=by
 intro l pins s σ H Q I h;refine isTrue_or (thn (ha pins s σ H _ I h) λc s1 ⟨k,d,q⟩=>?_)
 cases c with
 |true=>exact⟨k,d,q⟩
 |false=>exact hb l pins s1 σ k Q d q
theorem J4(ha:PT X a f):PT X (.UnaryOp .Not a pos) (tNot f):=by
 intro pins s σ H Q I h;exact isTrue_not (ha pins s σ H _ I h)
end
noncomputable def SqL(K:LD)(H:Hp)(a:Addr)(xs:List V):Prop:=
 Rd H a (.lst xs) \/
  ∃(o:Obj) (c:Array lD) (n:Nat),K.lookup a=some o/\o.cls = .type "list"/\o.dict=none/\o.data = .seq c n/\c.size≤aad/\Vals xs c.toList
noncomputable def SqT(K:LD)(H:Hp)(a:Addr)(xs:List V):Prop:=
 Rd H a (.tup xs) \/
  ∃(o:Obj) (c:Array lD) (n:Nat),K.lookup a=some o/\o.cls = .type "tuple"/\o.dict=none/\o.data = .seq c n/\c.size≤aad/\Vals xs c.toList
noncomputable def absV:lD->Option V
 | .none=>some .non
 | .bool b=>some (.bl b)
 | .int i _=>some (.int i)
 | .str x _=>some (.str x)
 | .bytes b _=>some (.byt b)
 | .float b _=>some (.flt b)
 | .ref a=>some (.ref a)
 | .type n=>some (.ty n)
 |_=>none
theorem RelV.abs{x:V}(r:RelV x u):absV u=some x:=by
 cases x with
 |non=>cases r;rfl
 |bl _=>cases r;rfl
 |int _=>let⟨t,rfl⟩:=r;rfl
 |str _=>let⟨t,rfl⟩:=r;rfl
 |byt _=>let⟨t,rfl⟩:=r;rfl
 |flt _=>let⟨t,rfl⟩:=r;rfl
 |ref _=>cases r;rfl
 |ty _=>cases r;rfl
def RelV.inj{x y:V}(r:RelV x u)(q:RelV y u):x=y:=aal (r.abs.symm.trans q.abs)
theorem Vals.inj:∀{xs ys:List V}{us:List lD},Vals xs us->Vals ys us->xs=ys
 |_,_,_,.nil,.nil=>rfl
 |_,_,_,.cons r t,.cons r' t'=>by rw[r.inj r',Vals.inj t t']
section
variable {X:Cx}{b:List (Addr×Obj)}{c:St}{H:Hp}{s:mT}{a:Addr}{xs ys:List V}
def SqL.of(h:H a=some (.lst xs)):SqL K H a xs:=.inl (.inl h)
def SqT.of(h:H a=some (.tup xs)):SqT K H a xs:=.inl (.inl h)
theorem Inv.list(I:Inv X b c H s)(h:SqL X.K H a xs):∃d:List lD,Vals xs d/\PlainL s.heap a d.toArray/\xs.length≤aad:=by
 rcases h with h|⟨o,d,n,l,k,hd,hs,m,r⟩
 .obtain⟨z,d,n,r,e⟩:=h.ok I.hok;exact⟨d,r,⟨_,n,e,rfl,rfl,rfl⟩,z⟩
 .refine⟨d.toList,r,⟨o,n,I.kIn a o l,k,hd,by simpa using hs⟩,?_⟩;have e:=r.length
  grind
theorem Inv.tuple(I:Inv X b c H s)(h:SqT X.K H a xs):∃d:List lD,Vals xs d/\IsTup s.heap a d.toArray/\xs.length≤aad:=by
 rcases h with h|⟨o,d,n,l,k,hd,hs,m,r⟩
 .obtain⟨z,d,r,p⟩:=h.ok I.hok;exact⟨d,r,p.tup,z⟩
 .refine⟨d.toList,r,⟨o,I.kIn a o l,k,n,by simpa using hs⟩,?_⟩;have e:=r.length
  simp_all
theorem Inv.tupleP(I:Inv X b c H s)(h:SqT X.K H a xs):∃d:List lD,Vals xs d/\PlainT s.heap a d.toArray/\xs.length≤aad:=by
 rcases h with h|⟨o,d,n,l,k,hd,hs,m,r⟩
 .obtain⟨z,d,r,p⟩:=h.ok I.hok;exact⟨d,r,p,z⟩
 .refine⟨d.toList,r,⟨o,I.kIn a o l,k,hd,n,by simpa using hs⟩,?_⟩;have e:=r.length
  simp_all
theorem Inv.list_inj(I:Inv X b c H s)(h:SqL X.K H a xs)(h':SqL X.K H a ys):xs=ys:=by
 let⟨q,r,⟨o,n,e,_,_,d⟩,_⟩:=I.list h;let⟨m,p,⟨t,y,l,_,_,k⟩,_⟩:=I.list h';rw[e]at l;cases l;rw[d]at k;injection k with d1 _
 have:=by simpa using congrArg agf d1
 subst this;exact r.inj p
theorem Inv.tuple_inj(I:Inv X b c H s)(h:SqT X.K H a xs)(h':SqT X.K H a ys):xs=ys:=by
 let⟨q,r,⟨o,e,_,n,d⟩,_⟩:=I.tuple h;let⟨m,p,⟨t,l,_,y,k⟩,_⟩:=I.tuple h';rw[e]at l;cases l;rw[d]at k;injection k with d1 _
 have:=by simpa using congrArg agf d1
 subst this;exact r.inj p
end
noncomputable abbrev Cx.wish(X:Cx)(E:lD->mT->Prop):Cx:={X with xe:=E}
noncomputable abbrev Cx.nox(X:Cx):Cx:=X.wish λ_ _=>False
def Cx.Ok.wish(ok:X.Ok)(E:lD->mT->Prop):(X.wish E).Ok:=
 ⟨ok.mod,ok.kind,ok.glob,ok.blt,ok.above,ok.inj,ok.has,ok.cab,ok.hd,ok.frames,ok.stk,ok.exf,ok.bs,ok.bsz,ok.noex,ok.exfs,ok.funs,ok.frf⟩
def Cx.Ok.unwish(ok:(X.wish E).Ok):X.Ok:=
 ⟨ok.mod,ok.kind,ok.glob,ok.blt,ok.above,ok.inj,ok.has,ok.cab,ok.hd,ok.frames,ok.stk,ok.exf,ok.bs,ok.bsz,ok.noex,ok.exfs,ok.funs,ok.frf⟩
section
variable {X:Cx}{p:List (Addr×Obj)}{a:St}{H:Hp}{s:mT}{E:lD->mT->Prop}
def Inv.wish(I:Inv X p a H s)(E:lD->mT->Prop):Inv (X.wish E) p a H s:=⟨I.ok.wish E,I.os,I.bare,I.base,I.loc,I.cell,I.free,I.freeC,I.pin,I.hok,I.len⟩
def Inv.unwish(I:Inv (X.wish E) p a H s):Inv X p a H s:=⟨I.ok.unwish,I.os,I.bare,I.base,I.loc,I.cell,I.free,I.freeC,I.pin,I.hok,I.len⟩
theorem SP.unwish{D:Ends}{f:Flow}{s':mT}(h:SP (X.wish E) p D f s'):SP X p D f s':=by
 cases f with
 |next=>let⟨c,d,I,q⟩:=h;exact⟨c,d,I.unwish,q⟩
 |brk=>let⟨c,d,I,q⟩:=h;exact⟨c,d,I.unwish,q⟩
 |cont=>let⟨c,d,I,q⟩:=h;exact⟨c,d,I.unwish,q⟩
 |ret u=>let⟨v,c,d,I,r,q⟩:=h;exact⟨v,c,d,I.unwish,r,q⟩
theorem PSs.nox{st:List Stmt}{t:TS}(h:PSs X.nox st t):PSs X st t:=λp s a H D I c=>
 acy (h p s a H D (I.wish _) c) (λ_ _ q=>q.unwish) λ_ _ z=>adc z
end
section
variable {X:Cx}{st:Stmt}{rest:List Stmt}{t u:TS}{e:Expr}{g:TE}{pos:Pos}
noncomputable def RM:TS:=λD σ H=>D.nx σ H
noncomputable def tSeq(t u:TS):TS:=λD σ H=>t {D with nx:=u D} σ H
theorem Ja:PSs X [] RM:=λ_ _ σ H _ I h=>ae3 ⟨σ,H,I,h⟩
theorem DB(m:PS X st t)(d:PSs X rest u):PSs X (st::rest) (tSeq t u):=by
 intro pins s σ H D I h;refine wpAny_execs_cons (thn (m pins s σ H {D with nx:=u D} I h) λf s1 q=>?_)
 cases f with
 |next=>
  let⟨c,l,k,q⟩:=q;exact d pins s1 c l D k q
 |ret v=>exact q
 |brk=>exact q
 |cont=>exact q
theorem Jn(c:PS X st t):PSs X [st] t:=by
 intro pins s σ H D I h;refine wpAny_execs_cons (thn (c pins s σ H D I h) λf s1 q=>?_)
 cases f with
 |next=>exact ae3 q
 |ret v=>exact q
 |brk=>exact q
 |cont=>exact q
def Inv.quiet{s:mT}(I:Inv X pins σ H s):interactive X.env=false:=by simp[interactive,I.ok.kind]
noncomputable def Qr(g:TE):TS:=λD σ H=>g σ H λ_ c=>D.nx σ c
theorem IX(c:PE X e g)(hs:abQ e none pos.line X.env=pure false:=by rfl):PS X (.Expr e pos) (Qr g):=by
 intro pins s σ H D I h;exact wpAny_Expr_any (thn (c pins s σ H _ I h)<|by intro v s1 ⟨x,d,k,r1,q⟩;exact⟨σ,d,k,q⟩) I.quiet hs
noncomputable def tRet(g:TE):TS:=λD σ H=>g σ H D.rt
theorem Kq(c:PE X e g):PS X (.Return (some e) pos) (tRet g):=by
 intro pins s σ H D I h;exact wpAny_Return_some (thn (c pins s σ H _ I h)<|by intro v s1 ⟨x,d,k,r1,q⟩;exact⟨x,σ,d,k,r1,q⟩)
noncomputable def tIfS(c:TT)(t u:TS):TS:=λD σ H=>c σ H λb d=>if b=true then t D σ d else u D σ d
theorem Qu{c:Expr}{a b:List Stmt}{k:TT}(n:PT X c k)(ha:PSs X a t)(hb:PSs X b u):PS X (.If c a b pos) (tIfS k t u):=by
 intro pins s σ H D I h;refine wpAny_If (thn (n pins s σ H _ I h) λd s1 ⟨m,l,q⟩=>?_)
 cases d with
 |true=>exact ha pins s1 σ m D l q
 |false=>exact hb pins s1 σ m D l q
noncomputable def KH:TS:=λ_ _ _=>False
theorem CG:PS X st KH:=λ_ _ _ _ _ _ h=>h.elim
end
noncomputable abbrev TG:=V->St->Hp->(St->Hp->Prop)->Prop
noncomputable abbrev TGs:=List V->St->Hp->(St->Hp->Prop)->Prop
noncomputable def PG(X:Cx)(c:Expr)(t:TG):Prop:=
 ∀(pins:List (Addr×Obj)) (s:mT) (σ:St) (H:Hp) (v:V) (u:lD) (Q:St->Hp->Prop),Inv X pins σ H s->RelV v u->t v σ H Q ->
  wpAny (model X.prog X.w) X.A (ad5 c X.env u) (λ_ l=>∃d k,Inv X pins d k l/\Q d k) X.xe s
noncomputable def PGs(X:Cx)(ts:List Expr)(t:TGs):Prop:=
 ∀(pins:List (Addr×Obj)) (s:mT) (σ:St) (H:Hp) (vs:List V) (us:List lD) (Q:St->Hp->Prop),Inv X pins σ H s->Vals vs us->t vs σ H Q ->
  wpAny (model X.prog X.w) X.A (assignInOrder ((abG ts X.env).map (·.2)) us) (λ_ k=>∃c d,Inv X pins c d k/\Q c d) X.xe s
noncomputable abbrev TSet:=V->V->V->Hp->(Hp->Prop)->Prop
noncomputable def PSet(X:Cx)(t:TSet):Prop:=
 ∀(pins:List (Addr×Obj)) (s:mT) (σ:St) (H:Hp) (o i v:V) (c d u:lD) (Q:Hp->Prop),Inv X pins σ H s->RelV o c->RelV i d->RelV v u->t o i v H Q ->
  wpAny (model X.prog X.w) X.A (ahx c d u) (λ_ l=>∃k,Inv X pins σ k l/\Q k) X.xe s
section
variable {X:Cx}{pos:Pos}
noncomputable def DE(i:Nat):TG:=λv σ H Q=>Q (σ.set i (some v)) H
theorem Ie(l:X.N.Nodup)(hi:X.N[i]?=some x)(k:Loc X.env.scope x)(c:X.fn x=true\/X.env.scope.names.lookup x=some .local:=by first|exact .inl rfl|exact .inr rfl|assumption):PG X (.Name x pos) (DE i):=by
 intro pins s σ H v u Q I r h;exact wpAny_assign_Name (jL I l hi k r (λm d=>⟨_,H,d,h⟩) c)
noncomputable def gNil:TGs:=λvs σ H Q=>vs=[]/\Q σ H
noncomputable def RF(t:TG)(u:TGs):TGs:=λvs σ H Q=>∃v r,vs=v::r/\t v σ H λc d=>u r c d Q
theorem Jp:PGs X [] gNil:=by
 intro pins s σ H vs us Q I r h;let⟨e,h⟩:=h;exact assignInOrder_nil ⟨σ,H,I,h⟩
theorem Cu{t:TG}{u:TGs}(k:PG X e t)(d:PGs X es u)
  (hs:(abG (e::es) X.env).map (·.2)=ad5 e X.env::(abG es X.env).map (·.2):=by rfl):PGs X (e::es) (RF t u):=by
 intro pins s σ H vs us Q I r h;let⟨v,p,m,h⟩:=h;subst m
 cases r with
 |cons r rr=>
  rw[hs];refine afo (thn (k pins s σ H _ _ _ I r h) λ_ s1 ⟨c,l,n,q⟩=>?_);exact d pins s1 c l _ _ Q n rr q
noncomputable def gTup(K:LD)(n:Nat)(t:TGs):TG:=λv σ H Q=>∃a c,v = .ref a/\SqT K H a c/\c.length=n/\t c σ H Q
theorem O8{k:Nat}{t:TGs}{n:Nat}(z:X.calm=true)(h:PGs X es t)
  (C:(abG es X.env).length=n:=by rfl) (c:(abG es X.env).findIdx? (·.1)=none:=by rfl):PG X (.Tuple es k pos) (gTup X.K n t):=by
 intro pins s σ H v u Q I r d;let⟨a,m,y,B,q,d⟩:=d;subst y;cases r;let⟨p,G,F,L⟩:=I.tuple B;refine assign_Tuple_tuple (I.ok.hd z) F (by simp[C,<-q,G.length]) c λJ l=>?_;have D:=I.kept (t':=s.toks) λb o e=>l b o (aaS (OR e)) e;exact h pins _ σ H m _ Q D ‹_› d
noncomputable def gSub(to ti:TE)(t:TSet):TG:=λv σ H Q=>to σ H λo c=>ti σ c λi d=>t o i v d λk=>Q σ k
theorem L6{o i:Expr}{to ti:TE}{t:TSet}(ho:PE X o to)(hi:PE X i ti)(hs:PSet X t)
  (ha:∀v,ad5 (.Subscript o i pos) X.env v=(do
   let c <- adx [v] (eval o X.env)
   let d <- adx [v,c] (eval i X.env)
   adw pos
   adx [v,c,d] (ahx c d v)
   release [v,c,d] []):=by intro _;rfl):PG X (.Subscript o i pos) (gSub to ti t):=by
 intro pins s σ H v u Q I r h;rw[ha];refine aD (abI (thn (ho pins s σ H _ I h) λc s1 ⟨x,n,D,r1,q⟩=>?_));refine aD (abI (thn (hi pins s1 σ n _ D q) λd s2 ⟨y,p,k,z,C⟩=>?_));refine aD (ac1 (aD (abI (thn (hs pins s2 σ p x y v c d u _ k r1 z r C) λ_ F ⟨l,B,m⟩=>?_))));exact wpAny_release ⟨σ,l,B,m⟩
noncomputable def tAsg(t:TE)(g:TG):TS:=λD σ H=>t σ H λx c=>g x σ c D.nx
theorem E8{t:TE}{g:TG}(l:PE X e t)(d:PG X tg g)(hs:ac2 [tg] e pos.line X.env=pure false:=by rfl)(m:ac3 [tg] e X.env=pure none:=by rfl)
  (c:(abG [tg] X.env).map (·.2)=[ad5 tg X.env]:=by rfl):PS X (.Assign [tg] e pos) (tAsg t g):=by
 intro pins s σ H D I h;refine wpAny_Assign_stores (thn (l pins s σ H _ I h) λv s1 ⟨x,n,p,r1,k⟩=>?_) hs m;rw[c];exact thn (d pins s1 σ n x v _ p r1 k) λ_ s2 q=>q
theorem JW{t:TE}{p:Pos}(k:X.N.Nodup)(hi:X.N[i]?=some x)(n:Loc X.env.scope x)(l:PE X e t)(hs:abQ e (some (.Name x p)) pos.line X.env=pure false:=by rfl)(c:X.fn x=true\/X.env.scope.names.lookup x=some .local:=by first|exact .inl rfl|exact .inr rfl|assumption) :
  PS X (.Assign [.Name x p] e pos) (tAsg t (DE i)):=by
 intro pins s σ H D I h;refine wpAny_Assign_Name (thn (l pins s σ H _ I h) λv s1 ⟨y,m,z,r1,q⟩=>?_) hs;exact jL z k hi n r1 (λs2 d=>⟨_,m,d,q⟩) c
noncomputable def tPar(i j:Nat)(ta:TA):TS:=λD σ H=>ta σ H λvs c=>∃v w,vs=[v,w]/\D.nx ((σ.set i (some v)).set j (some w)) c
theorem J7{y:Str}{a b:Expr}{ta:TA}{t z pt:Pos}{kt k2 pt2}(U:X.calm=true)(G:X.N.Nodup)(hi:X.N[i]?=some x)(hj:X.N[j]?=some y)(m:i≠j)
  (F:X.env.scope.names.lookup x=some .local) (J:X.env.scope.names.lookup y=some .local) (ha:PA X [a,b] ta)
  (W:ac3 [.Tuple [.Name x t,.Name y z] kt pt] (.Tuple [a,b] k2 pt2) X.env=pure (some [x,y]))
  (hs:ac2 [.Tuple [.Name x t,.Name y z] kt pt] (.Tuple [a,b] k2 pt2) pos.line X.env=pure false:=by rfl) :
  PS X (.Assign [.Tuple [.Name x t,.Name y z] kt pt] (.Tuple [a,b] k2 pt2) pos) (tPar i j ta):=by
 intro pins s σ H D I h;rw[exec_Assign_arm];refine aD (ac1 ?_);rw[hs];refine aD (Dl ?_);rw[if_neg (by decide)];refine aD (Tuple_ (thn (ha _ pins s σ H _ I h) λus s1 ⟨vs,B,Y,r1,l⟩=>?_));let⟨v,w,R,l⟩:=l;subst R;let⟨d,c,rfl,Z,n⟩:∃d c,us=[d,c]/\RelV v d/\RelV w c:=by
  cases r1 with
  | cons p q=>
   cases q with
   |cons V L=>
    cases L;exact⟨_,_,rfl,p,V⟩
 refine aaV ?_ (by show 2≤aad;decide);have O:Inv X pins σ B {s1 with heap:=s1.heap.push {cls:=.type "tuple",data:=.seq [d,c].toArray} }:=Y.kept (t':=s1.toks) λb o e=>AD _ e;rw[W];refine aD (Dl ?_);refine aD (abH (aD (unpackItems_tuple (items:=#[d,c]) (I.ok.hd U) (IsTup.new s1.heap _) λh' k=>?_)));have S:=O.kept (h':=h') (t':=s1.toks) λb o e=>k b o (aaS (OR e)) e;show wpAny _ _ (assignInOrder [λv=>bindName X.env y v,λv=>bindName X.env x v] [c,d] >>= λ_=>pure Flow.next) _ _ _;refine aD (afo (wpAny_bindName (jL S G hj (.inl J) n (λs2 T=>?_) (.inr J))));refine afo (wpAny_bindName (jL T G hi (.inl F) Z (λs3 C=>assignInOrder_nil (Dl ?_)) (.inr F)));rw[List.set_comm _ _ (abf m)]at C;exact⟨_,B,C,l⟩
end
section
variable {X:Cx}{pos:Pos}
noncomputable def Ot(c:TT)(tb:TS):TS:=λD σ H=>∃W:Nat->St->Hp->Prop,(∃m,W m σ H)/\∀m σ H,W m σ H ->
 c σ H λb l=>if b=true then ∃N:St->Hp->Prop,(∀d k,N d k->∃n,n<m/\W n d k)/\tb {D with nx:=N,ct:=N,bk:=D.nx} σ l else D.nx σ l
theorem Bf{c:Expr}{L:TT}{tb:TS}(hp:afX (model X.prog X.w) X.A X.env X.xe)(U:PT X c L)(hb:PSs X body tb):PS X (.While c body [] pos) (Ot L tb):=by
 intro pins s σ H D I h;let⟨W,⟨Y,V⟩,t⟩:=h;refine wpAny_While (codeAny_whileLoop (λn Z=>∃m G,Inv X pins m G Z/\W n m G) ?_ Y ⟨σ,H,I,V⟩);intro n s1 ⟨k,R,I1,T⟩;refine acT hp (thn (U pins s1 k R _ I1 (t n k R T)) λb s2 ⟨S,O,p⟩=>?_)
 cases b with
 | true=>
  let⟨N,J,p⟩:=p;rw[if_pos rfl];refine acT hp (thn (hb pins s2 k S _ O p) λf s3 q=>?_)
  cases f with
  |next=>
   let⟨d,l,y,C⟩:=q;let⟨z,F,B⟩:=J d l C;exact⟨z,F,d,l,y,B⟩
  |cont=>
   let⟨d,l,y,C⟩:=q;let⟨z,F,B⟩:=J d l C;exact⟨z,F,d,l,y,B⟩
  |brk=>exact q
  |ret v=>exact q
 |false=>
  exact ae3 ⟨k,S,O,p⟩
end
structure It where
 go:Nat->Hp->Prop
 yld:Nat->Hp->V->Hp->Prop
 stop:Nat->Hp->Prop
noncomputable def FpOk(X:Cx)(pins:List (Addr×Obj))(H:Hp)(b:Addr):Prop:=
 H b=none/\b≠X.env.locals/\b∉X.fs/\(b∈X.ex\/X.s₀.heap.objs.size≤b)/\(∀x c,X.env.cells.lookup x=some c->c≠b)/\∀p∈X.pn++pins,p.1≠b
theorem Inv.fpOk{d:Hp}{s:mT}(I:Inv X pins σ H s)(hb:s.heap.objs.size≤b)(k:d b=none):FpOk X pins d b:=by
 refine⟨k,aaY (aan I.lt hb),I.nofs hb,.inr (aak I.sz hb),λx c e z=>?_,λp hp z=>?_⟩
 .obtain⟨v,q⟩:=I.cell x c e;exact absurd (aan q.lt (by simp_all)) (ac0 _)
 .exact absurd (aan (OR (I.pin p hp).1) (by simp_all)) (ac0 _)
structure Turn(P:aaD)(w:World)(K:LD)(tg:Expr)(J:It)(fp:List Addr)(it:Addr)(tn:Nat->aaX->Prop):Prop where
 mem:it∈fp
 obj:∀i h,tn i h->∀b∈fp,∃o,h.get? b=some o/\∀v,o.data≠.cell v
 keep:∀i h h',tn i h->(∀b∈fp,∀o,h.get? b=some o->h'.get? b=some o)->tn i h'
 item:∀(X:Cx),X.prog=P->X.w=w->X.K=K->X.calm=true->∀(i:Nat) (pins:List (Addr×Obj)) (s:mT) (σ:St) (H:Hp) (E:lD->mT->Prop),Inv X pins σ H s->(∀b∈fp,FpOk X pins H b)->tn i s.heap->J.go i H ->
  wpAny (model P w) X.A (ach (.ref it)) (λr s1=>∃u,r=some u/\
   wpAny (model P w) X.A (ad2 tg (.ref it) u) (λ_ s2=>∃x H',Inv X pins σ H' s2/\RelV x u/\J.yld i H x H'/\tn (i+1) s2.heap/\∀b∈fp,H' b=none) E s1) E s
 done:∀(X:Cx),X.prog=P->X.w=w->X.K=K->X.calm=true->∀(i:Nat) (pins:List (Addr×Obj)) (s:mT) (σ:St) (H:Hp) (E:lD->mT->Prop),Inv X pins σ H s->(∀b∈fp,FpOk X pins H b)->tn i s.heap->J.stop i H ->
  wpAny (model P w) X.A (ach (.ref it)) (λr s1=>r=none/\Inv X pins σ H s1) E s
 self:∀(A:aa6) (i:Nat) (s:mT) (Q:lD->mT->Prop) (E:lD->mT->Prop),tn i s.heap->Q (.ref it) s->wpAny (model P w) A (ae4 (.ref it)) Q E s
noncomputable abbrev TI:=St->Hp->(It->Hp->Prop)->Prop
noncomputable def PIE(X:Cx)(pins:List (Addr×Obj))(σ:St)(tg:Expr)(R:It->Hp->Prop)(c:lD)(s2:mT):Prop:=
 ∃(k:Addr) (fp:List Addr) (tn:Nat->aaX->Prop) (J:It) (d:Hp),c = .ref k/\Inv X pins σ d s2/\Turn X.prog X.w X.K tg J fp k tn/\tn 0 s2.heap/\(∀b∈fp,FpOk X pins d b)/\R J d
noncomputable def PI(X:Cx)(tg c:Expr)(d:TI):Prop:=
 ∀(pins:List (Addr×Obj)) (s:mT) (σ:St) (H:Hp) (R:It->Hp->Prop),Inv X pins σ H s->d σ H R ->
  wpAny (model X.prog X.w) X.A (eval c X.env) (λv s1=>wpAny (model X.prog X.w) X.A (ae4 v) (PIE X pins σ tg R) X.xe s1) X.xe s
theorem Js{s:mT}{d:Addr}{o:Obj}{n:String}{vs:Array lD}{Q:Unit->mT->Prop}(ho:s.heap.get? d=some o)(k:o.cls = .type n)(hd:o.data = .fields vs)
  (l:["enumerate","zip","dict_itemiterator","dict_reverseitemiterator","odict_iterator","itertools.zip_longest","itertools.pairwise"].contains n=false) (c:Q () s):wpAny M A (ad2 tg (.ref d) u) Q E s:=by
 cases tg<;>first
  |exact Dl c
  | (cases u<;>first
    |exact Dl c
    | (refine aD (wpAny_load ho ?_)
       rw[k,hd];show wpAny M A (if _=true then _ else _) Q E s;rw[if_neg (by grind)];exact Dl c))
noncomputable def Itl(K:LD)(a:Addr):It:=
 ⟨λi H=>∃c x,SqL K H a c/\c[i]?=some x,λi H x d=>d=H/\∀c,SqL K H a c->c[i]?=some x,λi H=>∃c,SqL K H a c/\c.length≤i⟩
noncomputable def Itt(K:LD)(a:Addr):It:=
 ⟨λi H=>∃c x,SqT K H a c/\c[i]?=some x,λi H x d=>d=H/\∀c,SqT K H a c->c[i]?=some x,λi H=>∃c,SqT K H a c/\c.length≤i⟩
noncomputable def Itr(lo:Int)(n:Nat):It:=⟨λi _=>i<n,λi H x c=>c=H/\x = .int (lo+i),λi _=>n≤i⟩
theorem yb(a l:Addr):Turn P w K tg (Itl K a) [l] l (λi h=>h.IsListIter l a i) where
 mem:=by simp
 obj:=λi h st b hb=>by
  have e:b=l:=by simpa using hb
  subst e;let⟨o,e,c,d⟩:=st;exact⟨o,e,λv z=>by rw[d]at z;cases z⟩
 keep:=λi h q st k=>st.at λo e=>k l (by simp) o e
 item:=by
  intro X D T S U i pins s σ H E I n st B;subst D T S;let⟨Y,x,t,C⟩:=B;let⟨L,J,p,hz⟩:=I.list t;let⟨u,Z,W⟩:=J.get C;let⟨O,F,f2,y,R,G⟩:=n l (by simp);refine wpAny_pyNext_list_item st p.isList (x:=u) (by simpa using Z) λq m sb=>?_;have V:Inv X pins σ H {s with heap:=q }:=I.turned (t':=s.toks) (λb o hb e=>(sb.2 b hb).trans e) O F y R G;let⟨o,e,c,d⟩:=id m;exact⟨u,rfl,Js (s:={s with heap:=q }) e c d (by decide) ⟨x,H,V,W,⟨rfl,λys hy=>by rw[I.list_inj hy t];exact C⟩,m,λb hb=>(n b hb).1⟩⟩
 done:=by
  intro X D T S U i pins s σ H E I n st B;subst D T S;let⟨Y,t,C⟩:=B;let⟨L,J,p,hz⟩:=I.list t;let⟨O,F,f2,y,R,G⟩:=n l (by simp);have hl:=J.length;exact wpAny_pyNext_list_end (I.ok.hd U) st p.isList (by simp;omega) λq eb=>⟨rfl,I.turned (t':=s.toks) (λb o hb e=>eb b o hb e) O F y R G⟩
 self:=λ_ _ _ _ _ st h=>wpAny_pyIter_listiter st h
theorem v9(a m:Addr):Turn P w K tg (Itt K a) [m] m (λi h=>h.IsTupleIter m a i) where
 mem:=by simp
 obj:=λi h st b hb=>by
  have e:b=m:=by simpa using hb
  subst e;let⟨o,e,c,d⟩:=st;exact⟨o,e,λv z=>by rw[d]at z;cases z⟩
 keep:=λi h t st k=>st.at λo e=>k m (by simp) o e
 item:=by
  intro X F T S U i pins s σ H E I q st C;subst F T S;let⟨Y,x,y,D⟩:=C;let⟨l,L,p,hz⟩:=I.tuple y;let⟨u,Z,W⟩:=L.get D;let⟨O,G,f2,B,R,J⟩:=q m (by simp);refine wpAny_pyNext_tuple_item st (show s.heap.IsTuple a l.toArray from p) (x:=u) (by simpa using Z) λt n sb=>?_;have V:Inv X pins σ H {s with heap:=t }:=I.turned (t':=s.toks) (λb o hb e=>(sb.2 b hb).trans e) O G B R J;let⟨o,e,c,d⟩:=id n;exact⟨u,rfl,Js (s:={s with heap:=t }) e c d (by decide) ⟨x,H,V,W,⟨rfl,λys hy=>by rw[I.tuple_inj hy y];exact D⟩,n,λb hb=>(q b hb).1⟩⟩
 done:=by
  intro X F T S U i pins s σ H E I q st C;subst F T S;let⟨Y,y,D⟩:=C;let⟨l,L,p,hz⟩:=I.tuple y;let⟨O,G,f2,B,R,J⟩:=q m (by simp);have hl:=L.length;exact wpAny_pyNext_tuple_end (I.ok.hd U) st (show s.heap.IsTuple a l.toArray from p) (by simp;omega) λt eb=>⟨rfl,I.turned (t':=s.toks) (λb o hb e=>eb b o hb e) O G B R J⟩
 self:=λ_ _ _ _ _ st h=>wpAny_pyIter_tupleiter st h
theorem vI(c:Addr)(lo:Int)(n:Nat):Turn P w K tg (Itr lo n) [c] c (λi h=>IsRangeIter h c (lo+(i:Nat)*1) ((n:Int)-(i:Nat)) 1) where
 mem:=by simp
 obj:=λi h st b hb=>by
  simp_all
 keep:=λi h m st k=>k c (by simp) _ st
 item:=by
  intro X y J F G i pins s σ H E I l st q;subst y J F;let⟨C,z,T,p,D,B⟩:=l c (by simp);have W:=Walks.range (prog:=X.prog) (w:=X.w) (I.ok.hd G) c lo 1 n;refine W.item i s _ _ q st λv m L O d S=>?_;let⟨t,rfl⟩:=O;have R:Inv X pins σ H {s with heap:=m,toks:=L}:=I.turned (λb o hb e=>S b o (by simpa using hb) e) C z p D B;refine⟨_,rfl,Js (s:={s with heap:=m,toks:=L}) (n:= "range_iterator") d rfl rfl (by decide) ⟨.int (lo+i),H,R,⟨t,?_⟩,⟨rfl,rfl⟩,d,λb hb=>(l b hb).1⟩⟩;rw[aeS]
 done:=by
  intro X y J F G i pins s σ H E I l st q;subst y J F;let⟨C,z,T,p,D,B⟩:=l c (by simp);exact wpAny_pyNext_range_end (I.ok.hd G) st (by have:n≤i:=q;omega) λm eb=>⟨rfl,I.turned (t':=s.toks) (λb o hb e=>eb b o hb e) C z p D B⟩
 self:=λ_ _ _ _ _ st h=>wpAny_pyIter_rangeiter st h
section
variable {X:Cx}{tg:Expr}
theorem Cc{s:mT}{R:It->Hp->Prop}{lo hi:Int}{t u v:Tok}{c:Nat}(I:Inv X pins σ H s)(l : -(2^62)≤lo)(k:lo<2^62)(m : -(2^62)≤hi)(p:hi<2^62)
  (q:R (Itr lo (hi-lo).toNat) H):wpAny (model X.prog X.w) X.A (ae4 (.ref s.heap.objs.size)) (PIE X pins σ tg R) E {s with heap:=s.heap.push {cls:=.type "range",data:=.fields #[.int lo t,.int hi u,.int 1 v]},toks:=c}:=by
 refine wpAny_pyIter_range (IsRange.new ..) (small_one l k m p) ?_;have d:Inv X pins σ H {s with heap:=s.heap.push {cls:=.type "range",data:=.fields #[.int lo t,.int hi u,.int 1 v]},toks:=c}:=I.kept λb o e=>AD _ e;refine⟨(s.heap.push {cls:=.type "range",data:=.fields #[.int lo t,.int hi u,.int 1 v]}).objs.size,[(s.heap.push {cls:=.type "range",data:=.fields #[.int lo t,.int hi u,.int 1 v]}).objs.size],_,_,H,rfl,
  d.kept (t':=c) λb o e=>AD _ e,vI _ lo (hi-lo).toNat,?_,λb hb=>?_,q⟩
 .have e1:lo+((0:Nat):Int)*1=lo:=by simp
  have n:(((hi-lo).toNat):Int)-((0:Nat):Int)=ac8.Range.rangeSize lo hi 1:=by rw[rangeSize_one];split<;>omega
  rw[e1,n];exact aaa _ rfl
 .have e:b=(s.heap.push {cls:=.type "range",data:=.fields #[.int lo t,.int hi u,.int 1 v]}).objs.size:=by simpa using hb
  subst e;exact d.fpOk (Ad _) (d.hok.fresh (Ad _))
noncomputable def Qk(ta:TA):TI:=λσ H R=>ta σ H λvs c=>∃j:Int,vs=[.int j]/\-(2^62)≤j/\j<2^62/\R (Itr 0 j.toNat) c
theorem wN{a:Expr}{ta:TA}{p:Pos}(d:Gl X "range")(k:X.mg "range" = none)(ha:PA X [a] ta)(hs:aac [a] X.env=[(false,eval a X.env)]:=by rfl):PI X tg (.Call (.Name "range" p) [a] [] pos) (Qk ta):=by
 intro pins s σ H R I h;refine Call_ (l8 I d k boot_range (acI (thn (ha pos pins s σ H _ I h) λus s1 ⟨vs,n,m,r1,c⟩=>?_) hs rfl));let⟨j,e,c,l,q⟩:=c;subst e
 cases r1 with
 |cons r rr=>
  cases rr;let⟨t,rfl⟩:=r;exact call_range_1 (Cc m (by decide) (by decide) c l (by simpa))
noncomputable def tFor(n:TI)(g:TG)(tb:TS):TS:=λD σ H=>n σ H λJ p=>∃W:Nat->Nat->St->Hp->Prop,(∃m,W 0 m σ p)/\∀i m σ H,W i m σ H ->
 (J.stop i H/\D.nx σ H)\/(J.go i H/\∃N:St->Hp->Prop,(∀d c,N d c->∃l,l<m/\W (i+1) l d c)/\∀x c,J.yld i H x c->g x σ c λk q=>tb {D with nx:=N,ct:=N,bk:=D.nx} k q)
noncomputable def p8(fp:List Addr)(h:aaX):List (Addr×Obj):=fp.filterMap λb=>(h.get? b).map λo=>(b,o)
def gi{o:Obj}(hb:b∈fp)(e:h.get? b=some o):(b,o)∈p8 fp h:=List.mem_filterMap.mpr ⟨b,hb,by rw[e];rfl⟩
theorem wF{p:Addr×Obj}(hp:p∈p8 fp h):p.1∈fp/\h.get? p.1=some p.2:=by
 let⟨b,hb,e⟩:=List.mem_filterMap.mp hp
 cases q:h.get? b with
 |none=>rw[q]at e;cases e
 |some o=>
  rw[q]at e;have c:=aal e;subst c;exact⟨hb,q⟩
theorem Inv.pinned{s:mT}(I:Inv X pins σ H s)(c:∀b∈fp,FpOk X pins H b)(ho:∀b∈fp,∃o,s.heap.get? b=some o/\∀v,o.data≠.cell v):Inv X (pins++p8 fp s.heap) σ H s:=
 I.pins_of λp hp=>(aaO.mp hp).elim (λz=>I.pin p (aa5 _ z)) λz=>by
  let⟨hb,e⟩:=wF z;let⟨k,l,d,_⟩:=c p.1 hb;obtain _:=ho p.1 hb
  simp_all
def Inv.unpinned{c:List (Addr×Obj)}{s:mT}(I:Inv X (pins++c) σ H s):Inv X pins σ H s:=I.pins_of λp hp=>I.pin p (aa5 _ (aeR _ hp))
theorem N6{l:Expr}{wi:TI}{g:TG}{tb:TS}(hp:afX (model X.prog X.w) X.A X.env X.xe)(hc:X.calm=true)(hi:PI X tg l wi)(hg:PG X tg g)(hb:PSs X body tb)
  (hs:∀x,aaL l X.env x=pure x:=by intro _;rfl):PS X (.For tg l body [] pos) (tFor wi g tb):=by
 intro pins s σ H D I h;refine wpAny_For (thn (hi pins s σ H _ I h) λv s1 h1=>thn h1 λitv s2 h2=>?_) hs;let⟨it,fp,tn,J,H2,e,I2,T,V,f2,W,⟨m0,w0⟩,O⟩:=h2;subst e;have t:∀{B:Hp},(∀b∈fp,B b=none)->∀b∈fp,FpOk X pins B b:=λhn b hb=>⟨hn b hb,(f2 b hb).2⟩;refine codeAny_forLoop_any (λn s'=>∃i y B,Inv X pins y B s'/\tn i s'.heap/\(∀b∈fp,B b=none)/\W i n y B) ?_ m0 ⟨0,σ,H2,I2,V,λb hb=>(f2 b hb).1,w0⟩;intro n s3 ⟨i,q,S,I3,G,L,w3⟩;rcases O i n q S w3 with⟨stop,qn⟩|⟨go,N,hN,step⟩
 .refine acT hp (thn (T.done X rfl rfl rfl hc i pins s3 q S X.xe I3 (t L) G stop) λr s4 ⟨hr,I4⟩=>?_);subst hr;exact ae3 ⟨q,S,I4,qn⟩
 .refine acT hp (thn (T.item X rfl rfl rfl hc i pins s3 q S X.xe I3 (t L) G go) λr s4 ⟨u,hr,h4⟩=>?_);subst hr;refine acT hp (thn h4 λ_ s5 ⟨x,H5,I5,r5,y5,F,U⟩=>?_);have Z:=I5.pinned (t U) (T.obj _ _ F);refine acT hp (thn (hg _ s5 q H5 x u _ Z r5 (step x H5 y5)) λ_ s6 ⟨σ6,H6,I6,q6⟩=>?_);refine acT hp (thn (hb _ s6 σ6 H6 _ I6 q6) λf Y C=>?_);have z:∀{c:St}{k:Hp},Inv X (pins++p8 fp s5.heap) c k Y->N c k->∃m,m<n/\∃i y B,Inv X pins y B Y/\tn i Y.heap/\(∀b∈fp,B b=none)/\W i m y B:=λ{c k} p R=>by
   let⟨m',hm,w7⟩:=hN c k R;refine⟨m',hm,i+1,c,k,p.unpinned,T.keep _ _ _ F λb hb o e=>(p.pin (b,o) (aa5 _ (aa5 _ (gi hb e)))).1,λb hb=>?_,w7⟩;let⟨o,e,d⟩:=T.obj _ _ F b hb;exact(p.pin (b,o) (aa5 _ (aa5 _ (gi hb e)))).2.1
  cases f with
  |next=>let⟨c,k,p,R⟩:=C;exact z p R
  |cont=>let⟨c,k,p,R⟩:=C;exact z p R
  |brk=>let⟨c,k,p,C⟩:=C;exact⟨c,k,p.unpinned,C⟩
  |ret v=>let⟨x7,c,k,p,r7,C⟩:=C;exact⟨x7,c,k,p.unpinned,r7,C⟩
end
noncomputable abbrev R2:=V->V->Hp->VK->Prop
noncomputable def OpR(X:Cx)(f:lD->lD->Sem lD)(r:R2):Prop:=
 ∀(pins:List (Addr×Obj)) (s:mT) (σ:St) (H:Hp) (x y:V) (v u:lD) (Q:VK),Inv X pins σ H s->RelV x v->RelV y u->r x y H Q ->
  wpAny (model X.prog X.w) X.A (f v u) (EP X pins σ Q) X.xe s
noncomputable def UnR(X:Cx)(f:lD->Sem lD)(r:V->Hp->VK->Prop):Prop:=
 ∀(pins:List (Addr×Obj)) (s:mT) (σ:St) (H:Hp) (x:V) (v:lD) (Q:VK),Inv X pins σ H s->RelV x v->r x H Q ->
  wpAny (model X.prog X.w) X.A (f v) (EP X pins σ Q) X.xe s
noncomputable def di(X:Cx)(f:lD)(r:List V->Hp->VK->Prop):Prop:=
 ∀(pins:List (Addr×Obj)) (s:mT) (σ:St) (H:Hp) (c:List V) (us:List lD) (Q:VK),Inv X pins σ H s->Vals c us->r c H Q ->
  wpAny (model X.prog X.w) X.A (call f us) (EP X pins σ Q) X.xe s
noncomputable def tOp(r:R2)(ta tb:TE):TE:=λσ H Q=>ta σ H λx c=>tb σ c λy d=>r x y d Q
noncomputable def tUn(r:V->Hp->VK->Prop)(ta:TE):TE:=λσ H Q=>ta σ H λx c=>r x c Q
noncomputable def rI(C:Int->Int->Prop)(g:Int->Int->V):R2:=λx y H Q=>∃i j,x = .int i/\y = .int j/\C i j/\Q (g i j) H
noncomputable def rI0(g:Int->Int->V):R2:=λx y H Q=>∃i j,x = .int i/\y = .int j/\Q (g i j) H
noncomputable def rU(g:Int->V):V->Hp->VK->Prop:=λx H Q=>∃i,x = .int i/\Q (g i) H
section
variable {X:Cx}{a b c:Expr}{ta tb d:TE}{pos:Pos}
def binT(ha:PE X a ta)(hb:PE X b tb){s:mT}{R:V->V->Hp->Prop}(I:Inv X pins σ H s)
  (h:ta σ H λx n=>tb σ n λy k=>R x y k) 
  (q:∀v u s2 x y k,Inv X pins σ k s2->RelV x v->RelV y u->R x y k->wpAny (model X.prog X.w) X.A (f v u) Q X.xe s2) :
  wpAny (model X.prog X.w) X.A (eval a X.env) (λv l=>wpAny (model X.prog X.w) X.A (eval b X.env) (λu m=>wpAny (model X.prog X.w) X.A (f v u) Q X.xe m) X.xe l) X.xe s:=by
 refine thn (ha pins s σ H _ I h) λv s1 ⟨x,n,C,r1,B⟩=>?_;refine thn (hb pins s1 σ n _ C B) λu s2 ⟨y,k,t,p,z⟩=>?_;exact q v u s2 x y k t r1 p z
theorem Qp{op:Operator}(ho:OpR X (acs op) r)(ha:PE X a ta)(hb:PE X b tb):PE X (.BinOp a op b pos) (tOp r ta tb):=by
 intro pins s σ H Q I h;exact wpAny_BinOp (binT ha hb I h λv u s2 x y m l k n q=>ho pins s2 σ m x y v u Q l k n q)
theorem QX{op:UnaryOp}{r:V->Hp->VK->Prop}(ho:UnR X (unaryOp op) r)(ha:PE X a ta):PE X (.UnaryOp op a pos) (tUn r ta):=by
 intro pins s σ H Q I h;exact UnaryOp_ (thn (ha pins s σ H _ I h)<|by intro v s1 ⟨x,k,l,r1,q⟩;exact ho pins s1 σ k x v Q l r1 q)
theorem opI{C:Int->Int->Prop}
  (k:∀(i j:Int) (t u:Tok) (s:mT) (Q:lD->mT->Prop) (E:lD->mT->Prop),C i j->Q (.int (g i j) s.toks) {s with toks:=s.toks+1}->wpAny (model X.prog X.w) X.A (f (.int i t) (.int j u)) Q E s) :
  OpR X f (rI C λi j=>.int (g i j)):=by
 intro pins s σ H x y v u Q I l n h;let⟨i,j,rfl,rfl,m,q⟩:=h;let⟨t,rfl⟩:=l;let⟨t',rfl⟩:=n;exact k i j t t' s _ _ m ⟨.int _,H,I.tok _,⟨_,rfl⟩,q⟩
theorem opI0
  (k:∀(i j:Int) (t u:Tok) (s:mT) (Q:lD->mT->Prop) (E:lD->mT->Prop),Q (.int (g i j) s.toks) {s with toks:=s.toks+1}->wpAny (model X.prog X.w) X.A (f (.int i t) (.int j u)) Q E s) :
  OpR X f (rI0 λi j=>.int (g i j)):=by
 intro pins s σ H x y v u Q I l m h;let⟨i,j,rfl,rfl,q⟩:=h;let⟨t,rfl⟩:=l;let⟨t',rfl⟩:=m;exact k i j t t' s _ _ ⟨.int _,H,I.tok _,⟨_,rfl⟩,q⟩
theorem opB0{g:Int->Int->Bool}
  (k:∀(i j:Int) (t u:Tok) (s:mT) (Q:lD->mT->Prop) (E:lD->mT->Prop),Q (.bool (g i j)) s->wpAny (model X.prog X.w) X.A (f (.int i t) (.int j u)) Q E s) :
  OpR X f (rI0 λi j=>.bl (g i j)):=by
 intro pins s σ H x y v u Q I l m h;let⟨i,j,rfl,rfl,q⟩:=h;let⟨t,rfl⟩:=l;let⟨t',rfl⟩:=m;exact k i j t t' s _ _ ⟨.bl _,H,I,rfl,q⟩
noncomputable def CPow(i j:Int):Prop:=0≤j/\j≤1000000/\i.natAbs<2^64
noncomputable def CMul(i j:Int):Prop:=(-(2^64)<i/\i<2^64)\/(-(2^64)<j/\j<2^64)
def CMul.ok{i j:Int}(h:CMul i j):afY i j:=by
 rcases h with⟨l,k⟩|⟨l,k⟩
 .exact .of_left (intBits_le_64 l k)
 .exact .of_right (intBits_le_64 l k)
def Mj:OpR X (acs .Add) (rI0 λi j=>.int (i+j)):=opI0 λ_ _ _ _ _ _ _ q=>add_int q
def Oh:OpR X (acs .Mod) (rI (λ_ j=>0<j) λi j=>.int (i%j)):=opI λi j _ _ _ _ _ k q=>by
 exact mod_int' (by omega) (by rw[Int.fmod_eq_emod_of_nonneg i (by omega)];exact q)
def L5:OpR X (acs .Pow) (rI CPow λi j=>.int (i^j.toNat)):=opI λ_ _ _ _ _ _ _ k q=>pow_int_small k.1 k.2.1 k.2.2 q
theorem unI{f:lD->Sem lD}{g:Int->Int}
  (k:∀(i:Int) (t:Tok) (s:mT) (Q:lD->mT->Prop) (E:lD->mT->Prop),Q (.int (g i) s.toks) {s with toks:=s.toks+1}->wpAny (model X.prog X.w) X.A (f (.int i t)) Q E s) :
  UnR X f (rU λi=>.int (g i)):=by
 intro pins s σ H x v Q I l h;let⟨i,rfl,q⟩:=h;let⟨t,rfl⟩:=l;exact k i t s _ _ ⟨.int _,H,I.tok _,⟨_,rfl⟩,q⟩
def Nw:UnR X (unaryOp .USub) (rU λi=>.int (-i)):=unI λ_ _ _ _ _ q=>neg_int q
end
noncomputable def scal:V->V->Bool
 | .non,.non=>true | .non,.int _=>true | .int _,.non=>true | .non,.bl _=>true | .bl _,.non=>true | .non,.str _=>true | .str _,.non=>true
 | .int _,.int _=>true | .bl _,.bl _=>true | .str _,.str _=>true | .byt _,.byt _=>true
 | .int _,.str _=>true | .str _,.int _=>true | .bl _,.str _=>true | .str _,.bl _=>true
 |_,_=>false
noncomputable def rEq:R2:=λx y H Q=>scal x y=true/\Q (.bl (decide (x=y))) H
noncomputable def rNe:R2:=λx y H Q=>scal x y=true/\Q (.bl (!decide (x=y))) H
def xy{i j:Int}:decide (V.int i=V.int j)=(i==j):=by
 rw[acz];simp
def Fq{i j:Bool}:decide (V.bl i=V.bl j)=(i==j):=by
 rw[acz];simp
def oz{i j:Str}:decide (V.str i=V.str j)=(i==j):=by
 rw[acz];simp
def ya{i j:Array UInt8}:decide (V.byt i=V.byt j)=(i.toList==j.toList):=by
 rw[acz];simp
section
variable {X:Cx}{a b c:Expr}{ta tb d:TE}{pos:Pos}
def bt{s:mT}{Q:VK}{k k':Bool}(I:Inv X pins σ H s)(q:Q (.bl k) H)(e:k=k'):EP X pins σ Q (.bool k') s:=by
 subst e;exact⟨.bl k,H,I,rfl,q⟩
theorem Se:OpR X (abR .Eq) rEq:=by
 intro pins s σ H x y v u Q I l k h;let⟨hs,q⟩:=h
 cases x with
 |non=>
  cases l
  cases y with
  |non=>cases k;exact PySem.EqNone.eq_none_none (bt I q (by simp))
  |bl j=>cases k;exact PySem.EqNone.eq_none_bool (bt I q (by simp))
  |int j=>let⟨t',rfl⟩:=k;exact PySem.EqNone.eq_none_int (bt I q (by simp))
  |str j=>let⟨t',rfl⟩:=k;exact PySem.EqNone.eq_none_str (bt I q (by simp))
  |_=>exact absurd (show false=true from hs) aax
 |bl i=>
  cases l
  cases y with
  |non=>cases k;exact PySem.EqNone.eq_bool_none (bt I q (by simp))
  |bl j=>cases k;exact eq_bool (bt I q Fq)
  |str j=>let⟨t',rfl⟩:=k;exact PySem.EqMixed.eq_bool_str (bt I q (by simp))
  |_=>exact absurd (show false=true from hs) aax
 |int i=>
  let⟨t,rfl⟩:=l
  cases y with
  |non=>cases k;exact PySem.EqNone.eq_int_none (bt I q (by simp))
  |int j=>let⟨t',rfl⟩:=k;exact eq_int (bt I q xy)
  |str j=>let⟨t',rfl⟩:=k;exact PySem.EqMixed.eq_int_str (bt I q (by simp))
  |_=>exact absurd (show false=true from hs) aax
 |str i=>
  let⟨t,rfl⟩:=l
  cases y with
  |non=>cases k;exact PySem.EqNone.eq_str_none (bt I q (by simp))
  |bl j=>cases k;exact PySem.EqMixed.eq_str_bool (bt I q (by simp))
  |int j=>let⟨t',rfl⟩:=k;exact PySem.EqMixed.eq_str_int (bt I q (by simp))
  |str j=>let⟨t',rfl⟩:=k;exact eq_str (bt I q oz)
  |_=>exact absurd (show false=true from hs) aax
 |byt i=>
  let⟨t,rfl⟩:=l
  cases y with
  |byt j=>let⟨t',rfl⟩:=k;exact PySem.W.eq_bytes (bt I q ya)
  |_=>exact absurd (show false=true from hs) aax
 |_=>cases y<;>exact absurd (show false=true from hs) aax
theorem QR:OpR X (abR .NotEq) rNe:=by
 intro pins s σ H x y v u Q I l k h;let⟨hs,q⟩:=h
 cases x with
 |non=>
  cases l
  cases y with
  |non=>cases k;exact PySem.EqNone.ne_none_none (bt I q (by rfl))
  |bl j=>cases k;exact PySem.EqNone.ne_none_bool (bt I q (by simp))
  |int j=>let⟨t',rfl⟩:=k;exact PySem.EqNone.ne_none_int (bt I q (by simp))
  |str j=>let⟨t',rfl⟩:=k;exact PySem.EqNone.ne_none_str (bt I q (by simp))
  |_=>exact absurd (show false=true from hs) aax
 |bl i=>
  cases l
  cases y with
  |non=>cases k;exact PySem.EqNone.ne_bool_none (bt I q (by simp))
  |bl j=>cases k;exact ne_bool (bt I q (congrArg not Fq))
  |str j=>let⟨t',rfl⟩:=k;exact PySem.EqMixed.ne_bool_str (bt I q (by simp))
  |_=>exact absurd (show false=true from hs) aax
 |int i=>
  let⟨t,rfl⟩:=l
  cases y with
  |non=>cases k;exact PySem.EqNone.ne_int_none (bt I q (by simp))
  |int j=>let⟨t',rfl⟩:=k;exact ne_int (bt I q (congrArg not xy))
  |str j=>let⟨t',rfl⟩:=k;exact PySem.EqMixed.ne_int_str (bt I q (by simp))
  |_=>exact absurd (show false=true from hs) aax
 |str i=>
  let⟨t,rfl⟩:=l
  cases y with
  |non=>cases k;exact PySem.EqNone.ne_str_none (bt I q (by simp))
  |bl j=>cases k;exact PySem.EqMixed.ne_str_bool (bt I q (by simp))
  |int j=>let⟨t',rfl⟩:=k;exact PySem.EqMixed.ne_str_int (bt I q (by simp))
  |str j=>let⟨t',rfl⟩:=k;exact ne_str (bt I q (congrArg not oz))
  |_=>exact absurd (show false=true from hs) aax
 |byt i=>
  let⟨t,rfl⟩:=l
  cases y with
  |byt j=>let⟨t',rfl⟩:=k;exact PySem.W.ne_bytes (bt I q (congrArg not ya))
  |_=>exact absurd (show false=true from hs) aax
 |_=>cases y<;>exact absurd (show false=true from hs) aax
def QE:OpR X (abR .Lt) (rI0 λi j=>.bl (decide (i<j))):=opB0 λ_ _ _ _ _ _ _ q=>lt_int q
def Sf:OpR X (abR .Gt) (rI0 λi j=>.bl (decide (j<i))):=opB0 λ_ _ _ _ _ _ _ q=>gt_int q
def QB:OpR X (abR .GtE) (rI0 λi j=>.bl (decide (j≤i))):=opB0 λ_ _ _ _ _ _ _ q=>ge_int q
theorem Ix:OpR X (abR .IsNot) (λx y H Q=>y = .non/\Q (.bl (!decide (x = .non))) H):=by
 intro pins s σ H x y v u Q I k l h;let⟨rfl,q⟩:=h;cases l;refine isnot_none_gen (bt I q ?_)
 cases x<;>first
  |(cases k;rfl)
  |(let⟨t,rfl⟩:=k;rfl)
def aG(b:Expr)(h:op≠.In:=by decide)(k:op≠.NotIn:=by decide):ac4 op b=false:=by
 have m:(op==CmpOp.In)=false:=by cases op<;>first|rfl|exact absurd rfl h
 have l:(op==CmpOp.NotIn)=false:=by cases op<;>first|rfl|exact absurd rfl k
 cases b<;>simp[ac4,m,l]
theorem IM(ho:OpR X (abR op) r)(ha:PE X a ta)(hb:PE X b tb)(n:ac4 op b=false):PE X (.Compare a [op] [b] pos) (tOp r ta tb):=by
 intro pins s σ H Q I h;exact wpAny_Compare1 (binT ha hb I h λv u s2 x y m l k p q=>ho pins s2 σ m x y v u Q l k p q) n
noncomputable def P6(t:TE):TT:=λσ H Q=>t σ H λx l=>∃k,x = .bl k/\Q k l
theorem GQ(ho:OpR X (abR op) r)(ha:PE X a ta)(hb:PE X b tb)(F:ac4 op b=false):PT X (.Compare a [op] [b] pos) (P6 (tOp r ta tb)):=by
 intro pins s σ H Q I h;refine wpAny_isTrue_Compare1 (thn (ha pins s σ H _ I h) λv s1 ⟨x,p,J,r1,q⟩=>thn (hb pins s1 σ p _ J q) λu s2 ⟨y,B,l,C,G⟩=>
  thn (ho pins s2 σ B x y v u _ l r1 C G) λc L ⟨z,m,D,t,k,e,n⟩=>?_) F
 subst e;cases t;exact wpAny_truthy_bool ⟨m,D,n⟩
def lU:(aad:Nat)<2^63:=by  decide
theorem vW:OpR X (acs .Add) (λx y H Q=>∃i j,x = .str i/\y = .str j/\i.length+j.length≤aad/\Q (.str (i++j)) H):=by
 intro pins s σ H x y v u Q I k m h;let⟨i,j,rfl,rfl,l,q⟩:=h;let⟨t,rfl⟩:=k;let⟨t',rfl⟩:=m;exact add_str (λt' n=>⟨.str _,H,I.tok _,⟨_,rfl⟩,q⟩) l
theorem vw{x:V}(r:Vals [x] us):∃u,us=[u]/\RelV x u:=by
 cases r with
 |cons r1 k=>cases k;exact⟨_,rfl,r1⟩
theorem CI:di X (.builtin "abs") (λxs H Q=>∃i,xs=[.int i]/\Q (.int (if i<0 then -i else i)) H):=by
 intro pins s σ H xs us Q I r h;let⟨i,rfl,q⟩:=h;let⟨u,rfl,t,rfl⟩:=vw r;exact call_abs_int λu k=>⟨.int _,H,I.tok _,⟨_,rfl⟩,q⟩
theorem o7:di X (.type "int") (λxs H Q=>(∃i,xs=[.int i]/\Q (.int i) H)\/∃k,xs=[.bl k]/\Q (.int (if k then 1 else 0)) H):=by
 intro pins s σ H xs us Q I r h;rcases h with⟨i,rfl,q⟩|⟨k,rfl,q⟩
 .obtain⟨u,rfl,t,rfl⟩:=vw r;exact call_int_int ⟨.int i,H,I,⟨_,rfl⟩,q⟩
 .obtain⟨u,rfl,r1⟩:=vw r;cases r1;exact call_int_bool ⟨.int _,H,I.tok _,⟨_,rfl⟩,q⟩
end
theorem RelO.some_of{o:Option lD}(r:RelO (some v) o):∃u,o=some u/\RelV v u:=by
 cases o with
 |none=>exact(r).elim
 |some u=>exact⟨u,rfl,r⟩
theorem RelO.none_of{o:Option lD}(r:RelO none o):o=none:=by
 cases o with
 |none=>rfl
 |some u=>exact(r).elim
structure Room(k:Nat)(A:aa6):Prop where
 hd:A.handled=none
 dp:A.depth+3*k+5<recursionLimit
 un:A.units+16*k+200<cLine
 gd:A.guards=some []
def Room.mono{k:Nat}(r:Room k A)(h:j≤k):Room j A:=⟨r.hd,by have:=r.dp;omega,by have:=r.un;omega,r.gd⟩
def Room.deeper{k:Nat}(r:Room (k+1) A)(env:Env):Room k (A.deeper env):=
 ⟨r.hd,by have:=r.dp;show A.depth+1+3*k+5<_;omega,by have:=r.un;show A.units+3+16*k+200<_;omega,r.gd⟩
def Room.depth{k:Nat}(r:Room k A):A.depth<recursionLimit:=by have:=r.dp;omega
def Room.units{k:Nat}(r:Room k A):A.units+64<cLine:=by have:=r.un;omega
noncomputable def tNil:TA:=λ_ H Q=>Q [] H
noncomputable def RG(ta:TE)(tr:TA):TA:=λσ H Q=>ta σ H λx d=>tr σ d λc k=>Q (x::c) k
section
variable {X:Cx}{e:Expr}{es:List Expr}{a:TE}{t:TA}{pos:Pos}
theorem NR:PA X [] tNil:=λ_ _ _ _ H Q I h=>ahy ⟨[],H,I,.nil,h⟩
theorem Gh(ha:PE X e a)(hr:PA X es t)(hs:aac (e::es) X.env=(false,eval e X.env)::aac es X.env:=by rfl):PA X (e::es) (RG a t):=by
 intro pos pins s σ H Q I h;rw[hs];show wpAny _ _ (spliced ((false,eval e X.env)::acg pos _)) _ _ s;refine ahm (thn (ha pins s σ H _ I h) λu s1 ⟨x,m,n,r1,l⟩=>?_);exact thn (hr pos pins s1 σ m _ n l)<|by intro us s2 ⟨d,p,k,c,q⟩;exact⟨x::d,p,k,.cons r1 c,q⟩
noncomputable def tTup(t:TA):TE:=λσ H Q=>t σ H λc d=>c.length≤aad/\∀p,d p=none->Q (.ref p) (upd d p (.tup c))
noncomputable def tLst(t:TA):TE:=λσ H Q=>t σ H λc d=>c.length≤aad/\∀p,d p=none->Q (.ref p) (upd d p (.lst c))
theorem Lz{x1}(h:PA X es t):PE X (.Tuple es x1 pos) (tTup t):=by
 intro pins s σ H Q I l;refine wpAny_Tuple_spliced (thn (h pos pins s σ H _ I l) λus s1 ⟨m,k,c,r,z,q⟩=>⟨by rw[<-r.length];exact z,?_⟩);have d:=c.hok.fresh (Ad _);refine⟨.ref s1.heap.objs.size,upd k s1.heap.objs.size _,c.laid (t':=s1.toks) (λb u e=>AD _ e) (Ad _) ?_,rfl,q _ d⟩;exact⟨z,us,r,⟨_,aaa _ rfl,rfl,rfl,_,rfl⟩⟩
theorem NG(h:PA X es t):PE X (.List es pos) (tLst t):=by
 intro pins s σ H Q I l;refine wpAny_List_spliced (thn (h pos pins s σ H _ I l) λus s1 ⟨m,k,c,r,z,q⟩=>⟨by rw[<-r.length];exact z,?_⟩);have d:=c.hok.fresh (Ad _);refine⟨.ref s1.heap.objs.size,upd k s1.heap.objs.size _,c.laid (t':=s1.toks) (λb u e=>AD _ e) (Ad _) ?_,rfl,q _ d⟩;exact⟨z,us,0,r,aaa _ rfl⟩
end
noncomputable abbrev Sp:=List V->Hp->VK->XK->Prop
noncomputable abbrev CXT:=List Env->Hp->mT->XK->lD->mT->Prop
structure Env0(P:aaD)(w:World)(K:LD)(mg:Str->Option lD)(base:aaX)(A:aa6)(outer:List Env)(s:mT)(H:Hp):Prop where
 frames:A.frames=some outer
 mod:Mod K mg base
 bs:∀b o,base.get? b=some o->s.heap.get? b=some o/\H b=none
 bsz:base.objs.size≤s.heap.objs.size
 funs:s.heap.FunFrames base outer
 frf:∀b∈frs outer,H b=none
 hok:HOk P w H s.heap
 bare:afH s.gens
noncomputable def CE(outer:List Env)(P:aaD)(w:World)(H:Hp)(s:mT)(Q:VK)(u:lD)(s':mT):Prop:=
 ∃v c,s'.os=s.os/\afH s'.gens/\Un (frs outer) [] H c s.heap s'.heap/\HOk P w c s'.heap/\RelV v u/\Q v c
noncomputable def CR(CX:CXT)(outer:List Env)(P:aaD)(w:World)(H:Hp)(s:mT)(Q:VK)(E:XK)(r:Result)(s':mT):Prop:=
 match r with
 | .ok (.ret u)=>CE outer P w H s Q u s'
 | .ok _=>False
 | .error e=>CX outer H s E e s'
structure FnOk(P:aaD)(w:World)(K:LD)(mg:Str->Option lD)(base:aaX)(CX:CXT)(k:Nat)(f:Addr)(fd:acV)(ps:List Str)(sp:Sp):Prop where
 len:∀vs H Q E,sp vs H Q E->vs.length=ps.length
 run:∀(A:aa6) (outer:List Env) (s:mT) (H:Hp) (args:Args) (us:List lD) (vs:List V) (Q:VK) (E:XK),Room k A->Env0 P w K mg base A outer s H->ahz s fd args (ps.zip us)->Vals vs us->sp vs H Q E ->
  aeN (model P w) A (.call (.ref f) args) (CR CX outer P w H s Q E) s
section
variable {X:Cx}{p:List (Addr×Obj)}{a:St}{H:Hp}{s s':mT}
def Inv.env0(I:Inv X p a H s):Env0 X.prog X.w X.K X.mg X.base X.A X.stack s H:=
 ⟨I.ok.frames,I.ok.mod,I.bs,aak I.ok.bsz I.sz,I.stack,I.stkFree,I.hok,I.bare⟩
theorem Inv.after{Q:VK}(I:Inv X p a H s)(h:CE X.stack X.prog X.w H s Q u s'):EP X p a Q u s':=by
 let⟨v,k,os,bare,un,hok,r,q⟩:=h;let⟨l,g,d,t,c⟩:=s';obtain rfl:c=s.os:=os;exact⟨v,k,I.call (h':=l) (g':=g) (d':=d) (t':=t) un hok bare (λb z=>absurd z (by simp)),r,q⟩
end
noncomputable def Lp(sp:Sp)(d:List V)(E:XK)(t:TA):TE:=λσ H Q=>t σ H λvs c=>sp (vs++d) c Q E
noncomputable def Binds(K:LD)(fd:acV)(ps:List Str)(ds:List lD):Prop:=
 ∀(s:mT) (us:List lD),K.In s.heap->(us++ds).length=ps.length->ahz s fd ⟨us,[]⟩ (ps.zip (us++ds))
def Binds.all{fd:acV}(h:∀us:List lD,us.length=ps.length->bindArgs fd ⟨us,[]⟩=pure (ps.zip us)):Binds K fd ps []:=λs us _ c=>by
 rw[aa7]at c⊢;exact .of_eq (h us c)
noncomputable def um(CX:CXT)(X:Cx)(E:XK):Prop:=∀(pins:List (Addr×Obj)) (σ:St) (H:Hp) (s:mT) (e:lD) (c:mT),Inv X pins σ H s->CX X.stack H s E e c->X.xe e c
section
variable {X:Cx}{CX:CXT}{k:Nat}{f C:Addr}{fd:acV}{ps:List Str}{sp:Sp}{d:List V}{ds:List lD}{E:XK}{x m:Str}{p pos a:Pos}{e o:Expr}{es:List Expr}{ta:TE}{t:TA}
theorem Qf{s:mT}{Q:VK}{vs:List V}(F:FnOk X.prog X.w X.K X.mg X.base CX k f fd ps sp)(hr:Room k X.A)(hb:Binds X.K fd ps ds)(hd:Vals d ds)(q:um CX X E)
  (I:Inv X pins σ H s) (r:Vals vs us) (h:sp (vs++d) H Q E):wpAny (model X.prog X.w) X.A (call (.ref f) us) (EP X pins σ Q) X.xe s:=by
 have l:=r.append hd;have y:(us++ds).length=ps.length:=by rw[<-l.length];exact F.len _ _ _ _ h
 refine wpAny_call (afh (F.run X.A X.stack s H _ _ _ Q E hr I.env0 (hb s us I.kIn y) l h) λr n c=>?_)
 cases r with
 |error e=>exact q pins σ H s e n I c
 |ok fl=>
  cases fl with
  |ret u=>exact I.after c
  |next=>exact adc c
  |brk=>exact adc c
  |cont=>exact adc c
theorem JI(F:FnOk X.prog X.w X.K X.mg X.base CX k f fd ps sp)(hr:Room k X.A)(z:Gl X x)(D:X.mg x=some (.ref f))(y:adz X.K (.ref f)=true)(hb:Binds X.K fd ps ds)(hd:Vals d ds)(B:um CX X E)
  (ha:PA X (e::es) t) (c:(x==("__debug__" : Str))=false:=by decide) (G:aac (e::es) X.env=(false,eval e X.env)::aac es X.env:=by rfl) (l:(acg pos (aac es X.env)).any (·.1)=false:=by rfl) :
  PE X (.Call (.Name x p) (e::es) [] pos) (Lp sp d E t):=by
 intro pins s σ H Q I h;refine ad6 (yx I z D ?_ c);refine PySem.W.callWith_K I.ok.mod.kin y (thn (ha pos pins s σ H _ I h) λus s1 ⟨vs,J,n,r,q⟩=>⟨n.kIn,?_⟩) G l;exact Qf F hr hb hd B n r q
end
structure am(N P:List Str)(sc:Scope):Prop where
 kind:sc.kind = .function
 co:sc.isCoroutine=false
 gen:sc.isGenerator=false
 nd:N.Nodup
 pre:N.take P.length=P
 par:∀x∈P,sc.names.lookup x=some .local\/sc.names.lookup x=some .cell
 nofree:∀y∈sc.names,y.2≠.free
theorem qt{k:Str->Option aeT}{x:Str}:∀{binds:List (Str×lD)}{m:Str->Option lD},(∀v,(x,v)∉binds)->bindL k binds m x=m x
 |[],_,_=>rfl
 | (n,v)::r,m,h=>by
  unfold bindL;rw[qt λw c=>h w (Ge _ c)];split
  .have:x≠n:=by rintro rfl;exact h v Io
   simp[this]
  .rfl
theorem rf{k:Str->Option aeT}{x:Str}:∀{binds:List (Str×lD)}{m:Str->Option lD},(∀v,(x,v)∉binds)->bindC k binds m x=m x
 |[],_,_=>rfl
 | (n,v)::r,m,h=>by
  unfold bindC;rw[rf λw c=>h w (Ge _ c)];split
  .rfl
  .have:x≠n:=by rintro rfl;exact h v Io
   simp[this]
theorem qm{k:Str->Option aeT}{x:Str}{v:lD}:∀{P:List Str}{vs:List lD}{i:Nat}{m:Str->Option lD},P.Nodup->P[i]?=some x->vs[i]?=some v->k x=some .local ->
  bindL k (P.zip vs) m x=some v
 |[],_,_,_,_,h,_,_=>by simp at h
 |_::_,[],_,_,_,_,h,_=>by simp at h
 |p::P,w::vs,0,m,nd,h1,h2,hk=>by
  simp at h1 h2;subst h1;subst h2;show bindL k ((p,w)::P.zip vs) m p=_;unfold bindL;rw[qt λv c=>(aaR.mp nd).1 (agw c).1,if_pos hk];simp
 |p::P,w::vs,i+1,m,nd,h1,h2,hk=>by
  unfold bindL;exact qm (aaR.mp nd).2 ‹_› ‹_› hk
theorem p9{k:Str->Option aeT}{x:Str}{v:lD}:∀{P:List Str}{vs:List lD}{i:Nat}{m:Str->Option lD},P.Nodup->P[i]?=some x->vs[i]?=some v->k x≠some .local ->
  bindC k (P.zip vs) m x=some v
 |[],_,_,_,_,h,_,_=>by simp at h
 |_::_,[],_,_,_,_,h,_=>by simp at h
 |p::P,w::vs,0,m,nd,h1,h2,hk=>by
  simp at h1 h2;subst h1;subst h2;show bindC k (_::P.zip vs) m p=_;unfold bindC;rw[rf λv c=>(aaR.mp nd).1 (agw c).1,if_neg hk];simp
 |p::P,w::vs,i+1,m,nd,h1,h2,hk=>by
  unfold bindC;exact p9 (aaR.mp nd).2 ‹_› ‹_› hk
noncomputable def start(N:List Str)(vs:List V):St:=vs.map some++aai (N.length-vs.length) none
noncomputable def cxOf(CX:CXT)(P:aaD)(w:World)(K:LD)(mg:Str->Option lD)(base:aaX)(N:List Str)(q:Str)(scope:Scope)(f:Addr)(d:lD)(A:aa6)(outer:List Env)(s:mT)(H:Hp)(E:XK):Cx where
 prog:=P
 w:=w
 K:=K
 mg:=mg
 base:=base
 A:=A.deeper (ae5 q scope s.heap.objs.size f d)
 N:=N
 s₀:=s
 H₀:=H
 env:=ae5 q scope s.heap.objs.size f d
 outer:=outer
 stack:=ae5 q scope s.heap.objs.size f d::outer
 ex:=[]
 calm:=true
 fn:=λ_=>true
 pn:=[]
 xe:=λe k=>wpAny (model P w) (A.deeper (ae5 q scope s.heap.objs.size f d)) (leaving (ae5 q scope s.heap.objs.size f d) e) (λ_ c=>CX outer H s E e c) (λl c=>CX outer H s E l c) k
def uT{sc:Scope}{n:Nat}(h:sc.names.lookup x=some .cell):∃c,(cellsFrom n sc.names []).lookup x=some c:=by
 have q:=agg sc.names n [] (.inl h);exact afO.mp q
theorem yu{CX:CXT}{base:aaX}{d:Str}{f:Addr}{G:lD}{outer:List Env}{s s1:mT}{E:XK}{vs:List V}
  (S:am N ps scope) (hd:A.handled=none) (m:Env0 P w K mg base A outer s H) (T:vs.length=ps.length) (r:Vals vs us)
  (x:InCallC s s.heap.objs.size (bindL (ae5 d scope s.heap.objs.size f G).kindOf (ps.zip us) λ_=>none) (cellsFrom (s.heap.objs.size+1) scope.names []) (bindC (ae5 d scope s.heap.objs.size f G).kindOf (ps.zip us) λ_=>none) s1) :
  Inv (cxOf CX P w K mg base N d scope f G A outer s H E) [] (start N vs) H s1:=by
 have L:ps.length≤N.length:=by have:=congrArg aeU S.pre;rw[aaB]at this;omega
 let⟨F,U,rfl,I⟩:=x.done;have t:∀b:Addr,b∉(cxOf CX P w K mg base N d scope f G A outer s H E).ex:=λb z=>absurd (show b∈([]:List Addr)from z) (by simp);refine⟨⟨m.mod,S.kind,rfl,rfl,Ad _,λy z c F l=>?_,λy C=>?_,λy c _ h=>?_,λ_=>hd,aa6.frames_deeper m.frames,.inr ⟨rfl,rfl⟩,λb z=>absurd z (t b),m.bs,m.bsz,λb _ _=>t b,λb z=>absurd z (t b),m.funs,m.frf⟩,
  rfl,m.bare,Un.kept I,⟨_,x.toInCall.ns,λi y v F l R=>?_⟩,λy c h=>⟨_,x.cell y c h⟩,m.hok.fresh (Ad _),λy c h=>?_,λp hp=>absurd (show p∈([]:List (Addr×Obj))from hp) (by simp),m.hok.kept I,?_⟩
 .exact name_of_addr x.apart (acG F) (acG l)
 .rcases C with C|C
  .exact uT C
  .exact absurd rfl (S.nofree _ (acG C))
 .exact aaN (x.above y c (acG h))
 .have D:i<vs.length:=by
   unfold start at l
   by_cases D:i<vs.length
   .exact D
   .rw[aay (by simpa using D)]at l;rw[afZ]at l
    split at l<;>cases l
  have ha:vs[i]?=some v:=by
   unfold start at l;rw[aaz (by simpa using D),GE]at l
   cases e:vs[i]? with
   |none=>rw[e]at l;cases l
   |some a=>rw[e]at l;cases l;rfl
  let⟨u,J,O⟩:=r.get ha;have hp:ps[i]?=some y:=by
   rw[<-S.pre,afP (by omega)];exact F
  have B:ps.Nodup:=by rw[<-S.pre];exact S.nd.sublist (List.take_sublist _ _)
  refine⟨u,O,?_⟩;rcases S.par y (oR hp)with k|k
  .exact .inl ⟨k,qm B hp J k⟩
  .obtain⟨c,e⟩:=uT (n:=s.heap.objs.size+1) k;refine .inr ⟨.inl k,c,e,?_⟩;have q:=x.cell y c e;rw[p9 B hp J (by show scope.names.lookup y≠_;rw[k];decide)]at q;exact q
 .exact m.hok.fresh (aaN (x.above y c (acG h)))
 .unfold start;show _=N.length;rw[aaj,gE,acf];omega
theorem R8{CX:CXT}{base:aaX}{k:Nat}{f:Addr}{name c:Str}{p:Arguments}{U kV F pm d ct oc:lD}{an od:Option Addr}
  {L:Array (Option lD)}{sp:Sp} (lk:K.lookup f=some ⟨oc,od,.func (adH name c p body scope U kV F pm an d ct),L⟩) (R:afp K d c=true) (S:am N ps scope)
  (len:∀vs H Q E,sp vs H Q E->vs.length=ps.length)
  (z:∀(A:aa6) (outer:List Env) (s:mT) (H:Hp) (vs:List V) (Q:VK) (E:XK),Room k (A.deeper (ae5 c scope s.heap.objs.size f d))->sp vs H Q E ->
   ∃t,PSs (cxOf CX P w K mg base N c scope f d A outer s H E) body t/\t {nx:=λ_ m=>Q .non m,rt:=Q} (start N vs) H) :
  FnOk P w K mg base CX (k+1) f (adH name c p body scope U kV F pm an d ct) ps sp:=by
 refine⟨len,λA outer s H W us vs Q E hr C hb r D=>?_⟩;have Z:=len _ _ _ _ D;have Y:K.In s.heap:=C.mod.kin.keeps λb o e=>(C.bs b o e).1;have T:s.heap.NoLimit:=C.mod.nolimit.keeps λb o e=>(C.bs b o e).1;have B:∀y∈ps.zip us,scope.names.lookup y.1=some .local\/(scope.names.lookup y.1=some .cell/\((cellsFrom (s.heap.objs.size+1) scope.names []).lookup y.1).isSome=true):=by
  intro⟨n,v⟩ hy;rcases S.par n (agw hy).1 with q|q
  .exact .inl q
  .exact .inr ⟨q,agg _ _ _ (.inl q)⟩
 refine codeAny_call_function hr.depth (Y _ _ lk) rfl S.co S.gen rfl (PySem.W.codeRec_of Y R) (hb _ _ _ _ ?_);refine wpAny_newFunctionEnv_cells S.kind B λenv he s1 x=>?_;subst he;refine⟨T.keeps x.toInCall.keep,codeAny_func ?_⟩;let⟨t,ht,hq⟩:=z A outer s H vs Q E (hr.deeper _) D;have I:Inv (cxOf CX P w K mg base N c scope f d A outer s H E) [] (start N vs) H s1:=yu S hr.hd C Z r x;refine acy (ht [] s1 (start N vs) H _ I hq) (λfl O hs=>?_) λe O hs=>hs;have fin:∀{l:St}{m:Hp}{v:V}{u:lD},Inv (cxOf CX P w K mg base N c scope f d A outer s H E) [] l m O->RelV v u->Q v m->CE outer P w H s Q u O:=
  λ{l m v u} J G q=>⟨v,m,J.os,J.bare,J.base,J.hok,G,q⟩
 cases fl with
 |ret u=>
  let⟨v,l,m,J,G,q⟩:=hs;exact fin J G q
 |next=>
  let⟨l,m,J,q⟩:=hs;exact fin (v:=V.non) (u:=ahl) J rfl q
 |brk=>
  let⟨_,_,_,q⟩:=hs;exact adc q
 |cont=>
  let⟨_,_,_,q⟩:=hs;exact adc q
section
variable {X:Cx}{x:Str}{p pos:Pos}{e:Expr}{es:List Expr}{t:TA}{id T:String}{r:List V->Hp->VK->Prop}
noncomputable def tCB(r:List V->Hp->VK->Prop)(t:TA):TE:=λσ H Q=>t σ H λvs c=>r vs c Q
theorem AY(y:di X (.builtin id) r)(l:Gl X x)(n:X.mg x=none)(k:abb x=some (.builtin id))(ha:PA X (e::es) t)(B:x ≠ "__name__":=by decide)(c:(x==("__debug__" : Str))=false:=by decide)
  (z:aac (e::es) X.env=(false,eval e X.env)::aac es X.env:=by rfl) (d:(acg pos (aac es X.env)).any (·.1)=false:=by rfl):PE X (.Call (.Name x p) (e::es) [] pos) (tCB r t):=by
 intro pins s σ H Q I h;refine ad6 (l8 I l n k ?_ B c);exact aeD (thn (ha pos pins s σ H _ I h)<|by intro us s1 ⟨vs,m,C,r1,q⟩;exact y pins s1 σ m vs us Q C r1 q) z d
theorem Ap(y:di X (.type T) r)(l:Gl X x)(n:X.mg x=none)(k:abb x=some (.type T))(ha:PA X (e::es) t)(B:x ≠ "__name__":=by decide)(c:(x==("__debug__" : Str))=false:=by decide)
  (z:aac (e::es) X.env=(false,eval e X.env)::aac es X.env:=by rfl) (d:(acg pos (aac es X.env)).any (·.1)=false:=by rfl):PE X (.Call (.Name x p) (e::es) [] pos) (tCB r t):=by
 intro pins s σ H Q I h;refine ad6 (l8 I l n k ?_ B c);exact acI (thn (ha pos pins s σ H _ I h) λus s1 ⟨vs,m,C,r1,q⟩=>y pins s1 σ m vs us Q C r1 q) z d
end
end L2
namespace HT
open PySem PyProof.Rows
variable{Q:lD->mT->Prop}{hi lo:Option Int}
section
variable {prog:aaD}{w:World}{A:aa6}{E:lD->mT->Prop}{s:mT}
theorem cat_tup{t b:Addr}{vs a:List lD}(u:IsTup s.heap t vs.toArray)(hb:IsTup s.heap b a.toArray)(p:vs≠[])
  (r:a=[]->Q (.ref t) s) (q:a≠[]->Q (.ref s.heap.objs.size) {s with heap:=s.heap.push {cls:=.type "tuple",data:=.seq (vs++a).toArray} })
  (hsz:vs.length+a.length≤aad):wpAny (model prog w) A (acs .Add (.ref t) (.ref b)) Q E s:=by
 let⟨⟨cls,o,data,l⟩,ho,m,n,hd⟩:=id u;let⟨⟨k,f,i,c⟩,h,d,n2,g⟩:=id hb;simp only at m hd d g;subst m hd d g;have e:vs.toArray++a.toArray=(vs++a).toArray:=by simp
 by_cases j:a=[]
 .exact agh ⟨_,ho,rfl⟩ ⟨_,h,rfl⟩ af0 ahf aei aed (adT _ _)
   (tuple_addW1 t b vs.toArray a.toArray n n2 o f l c (by simpa) (by simp[j])) ⟨ho,h,r j⟩
 .refine agh ⟨_,ho,rfl⟩ ⟨_,h,rfl⟩ af0 ahf aei aed (adT _ _)
   (tuple_addW2 t b vs.toArray a.toArray n n2 o f l c (by simpa using p) (by simpa) ‹_›) ⟨ho,h,?_⟩
  rw[e];exact q j
noncomputable def sIx(n d:Nat):Option Int->Nat
 |none=>d
 |some v=>if v<0 then(v+(n:Int)).toNat else min v.toNat n
def sIx_none(n d:Nat):sIx n d none=d:=rfl
def sIx_nat(n d k:Nat):sIx n d (some (k:Int))=min k n:=rfl
theorem Mw(n d:Nat)(hd:d≤n)(o:Option Int):sIx n d o≤n:=by
 cases o with
 |none=>exact hd
 |some v=>
  show(if v<0 then(v+n).toNat else min v.toNat n)≤n
  by_cases h:v<0
  .grind
  .rw[if_neg h];exact aeE _ _
theorem yL(v:Int)(n d:Nat):(if v<0 then max (v+(n:Int)) 0 else min v (n:Int))=((sIx n d (some v):Nat):Int):=by
 show _=(((if v<0 then(v+_).toNat else min v.toNat n):Nat):Int)
 grind
theorem vo(lo hi:Option Int)(n:Nat):afE lo hi 1 (n:Int)=(((sIx n 0 lo:Nat):Int),((sIx n n hi:Nat):Int)):=by
 refine Prod.ext ?_ ?_
 .cases lo with
  |none=>rfl
  |some v=>exact yL v n 0
 .cases hi with
  |none=>rfl
  |some v=>exact yL v n n
theorem vz(i j:Nat):adL (i:Int) (j:Int) 1=j-i:=by
 unfold adL
 grind
theorem lL{v:lD}{o:Option Int}{Q:Option Int->mT->Prop}(p:agi v o)(h:Q o s):wpAny (model prog w) A (ac8.Slice.slicePartIndex v) Q E s:=by
 cases p with
 |none=>exact slicePart_none h
 |int i t=>exact slicePart_int h
def fC{c:Addr}{vl v:lD}{n:Nat}{Q:Int×Int×Nat->mT->Prop}(hs:s.heap.IsSliceOf c vl v .none)(e:agi vl lo)(p:agi v hi)
  (h:Q (((sIx n 0 lo:Nat):Int),1,sIx n n hi-sIx n 0 lo) s):wpAny (model prog w) A (ac8.Slice.sliceApplied (.ref c) (pure (n:Int))) Q E s:=by
 let⟨os,b,d,a⟩:=id hs;refine aD (aD (aba b a (x:=vl) rfl (aD (aba b a (x:=v) rfl (aD (aba b a (x:=.none) rfl (Dl ?_)))))));refine aD (slicePart_none ?_);refine aD (lL e (aD (lL p (aD (Dl ?_)))));show wpAny _ _ (match afE lo hi 1 (n:Int)with|(lo,hi)=>pure (lo,(1:Int),adL lo hi 1)) _ _ s;rw[vo lo hi n];show wpAny _ _ (pure _) _ _ s;rw[vz];exact Dl h
def BU(xs:Array lD)(i k:Nat):((aaw k).filterMap λ(m:Nat)=>xs[((i:Int)+(m:Int)*1).toNat]?).toArray=((xs.toList.drop i).take k).toArray:=by
 have e:(λ(m:Nat)=>xs[(i+(m:Int)*1).toNat]?)=λm=>xs[i+m]?:=by
  funext m
  have:(i+(m:Int)*1).toNat=i+m:=by omega
  rw[this]
 rw[e];have:=pick_run xs i k;rw[List.filterMap_map]at this;have a:(_∘λx=>i+x)=λm=>xs[i+m]?:=rfl;rw[a]at this;rw[this]
theorem getItem_tuple_cut{t e:Addr}{items:Array lD}{vl v:lD}(b:IsTup s.heap t items)(hs:s.heap.IsSliceOf e vl v .none)(p:agi vl lo)(j:agi v hi)
  (k:¬(sIx items.size 0 lo=0/\sIx items.size items.size hi=items.size))
  (h:Q (.ref s.heap.objs.size) {s with heap:=s.heap.push {cls:=.type "tuple",data:=.seq ((items.toList.drop (sIx items.size 0 lo)).take (sIx items.size items.size hi-sIx items.size 0 lo)).toArray} })
  (hsz:items.size≤aad):wpAny (model prog w) A (aeO (.ref t) (.ref e)) Q E s:=by
 have a:sizeOk (.seq ((items.toList.drop (sIx items.size 0 lo)).take (sIx items.size items.size hi-sIx items.size 0 lo)).toArray):=by
  show((items.toList.drop (sIx items.size 0 lo)).take (sIx items.size items.size hi-sIx items.size 0 lo)).toArray.size≤aad;rw[aav,aaB,aeF,abO];omega
 have l:sIx items.size items.size hi≤items.size:=Mw _ _ (Ad _) hi;let⟨os,f,c,i⟩:=id hs;have g:s.TypeIs (.ref e) "slice":=⟨os,f,c⟩;unfold aeO
 try with_reducible refine abI ?_
 first|refine aD (Dl ?_)|skip
 refine aD (afI b.typeIs (by decide) ?_);refine aD (aaF (name:=abY "__getitem__") b.typeIs abq
  (aaJ abq b.typeIs entry_tuple_getitem ?_ (args_tuple_getitem _ _)))
 show wpAny _ _ (adA (.ref t) >>= _) _ _ s;refine aD (ahg b ?_);refine aD (add g ?_);rw[if_pos (by decide)];refine aD (fC hs p j ?_);have d:¬((((sIx items.size 0 lo:Nat):Int)==0&&(1:Int)==1&&(sIx items.size items.size hi-sIx items.size 0 lo)==items.size)=true):=by
  grind
 show wpAny _ _ (if (((sIx items.size 0 lo:Nat):Int)==0&&(1:Int)==1&&(sIx items.size items.size hi-sIx items.size 0 lo)==items.size)=true then _ else _) _ _ s;rw[if_neg d,BU]
 first
  |exact aD (m:=abU _) (aaV (Dl ⟨_,rfl,Dl h⟩) a)
  |exact aD (m:=abU _) (aaV (aD (Dl (Dl ⟨_,rfl,Dl h⟩))) a)
  |exact aD (aD (m:=abU _) (aaV (Dl (Dl ⟨_,rfl,Dl h⟩)) a))
  |exact aD (aD (m:=abU _) (aaV (Dl ⟨_,rfl,Dl h⟩) a))
end
end HT
namespace L2
open PySem PySem.Spec PyProof.Rows
variable{xs:List V}{n:Nat}{α:Type}{pins:List (Addr×Obj)}{σ:St}{H:Hp}{its its':List lD}
noncomputable abbrev TO:=St->Hp->(Option Int->Hp->Prop)->Prop
noncomputable def PO(X:Cx)(e:Option Expr)(t:TO):Prop:=
 ∀(pins:List (Addr×Obj)) (s:mT) (σ:St) (H:Hp) (Q:Option Int->Hp->Prop),Inv X pins σ H s->t σ H Q ->
  wpAny (model X.prog X.w) X.A (evalPart e X.env) (λu b=>∃o a,Inv X pins σ a b/\agi u o/\Q o a) X.xe s
noncomputable def Iw:TO:=λ_ H Q=>Q none H
noncomputable def Sg(t:TE):TO:=λσ H Q=>t σ H λx a=>∃i,x = .int i/\Q (some i) a
theorem jj{ns:List Int}:∀{u:List lD},Vals (ns.map V.int) u->ag0 u ns:=by
 induction ns with
 |nil=>intro u r;cases r;exact .nil
 | cons n ns i=>
  intro u r
  cases r with
  |cons r1 a=>
   let⟨t,e⟩:=r1;subst e;exact .cons n t (i a)
section
variable {X:Cx}{e:Expr}{c:TE}{lo hi:Option Expr}{tl d:TO}{pos f:Pos}
theorem JR:PO X none Iw:=by
 intro pins s σ H Q I h;exact Dl ⟨none,H,I,.none,h⟩
theorem Jq(h:PE X e c):PO X (some e) (Sg c):=by
 intro pins s σ H Q I b;refine thn (h pins s σ H _ I b) λu s1 ⟨x,g,j,r1,a⟩=>?_;let⟨i,rfl,q⟩:=a;let⟨t,rfl⟩:=r1;exact⟨some i,g,j,.int i t,q⟩
noncomputable def SlR(X:Cx)(r:V->Option Int->Option Int->Hp->VK->Prop):Prop:=
 ∀(pins:List (Addr×Obj)) (s:mT) (σ:St) (H:Hp) (x:V) (v vl b:lD) (lo hi:Option Int) (a:Addr) (Q:VK),Inv X pins σ H s->RelV x v->s.heap.IsSliceOf a vl b .none->agi vl lo->agi b hi->r x lo hi H Q ->
  ∃T id,ahn (.type T) "__getitem__" = pure (some (.builtin id))/\s.TypeIs v T/\wpAny (model X.prog X.w) X.A (aeO v (.ref a)) (EP X pins σ Q) X.xe s
noncomputable def tSl(r:V->Option Int->Option Int->Hp->VK->Prop)(c:TE)(tl d:TO):TE:=λσ H Q=>c σ H λx a=>tl σ a λl b=>d σ b λu g=>r x l u g Q
theorem BA{r:V->Option Int->Option Int->Hp->VK->Prop}(hr:SlR X r)(F:PE X e c)(k:PO X lo tl)(o:PO X hi d):PE X (.Subscript e (.Slice lo hi none f) pos) (tSl r c tl d):=by
 intro pins s σ H Q I h;refine Subscript_ (thn (F pins s σ H _ I h) λv s1 ⟨x,z,G,r1,m⟩=>?_);refine wpAny_Slice (thn (k pins s1 σ z _ G m) λvl s2 ⟨l,A,t,B,E⟩=>thn (o pins s2 σ A _ t E) λg a ⟨u,i,p,C,y⟩=>?_);refine Dl ?_;have D:Inv X pins σ i {a with heap:=a.heap.push {cls:=.type "slice",data:=.fields #[vl,g,.none]} }:=p.kept (t':=a.toks) λb K q=>AD _ q;let⟨T,id,j,J,w⟩:=hr pins {a with heap:=a.heap.push {cls:=.type "slice",data:=.fields #[vl,g,.none]} } σ i x v vl g l u a.heap.objs.size Q D r1 (aaX.IsSliceOf.new ..) B C y;exact tail_any J j w rfl
noncomputable def cutV(xs:List V)(lo hi:Option Int):List V:=(xs.drop (HT.sIx xs.length 0 lo)).take (HT.sIx xs.length xs.length hi-HT.sIx xs.length 0 lo)
def j6(xs:List V)(lo hi:Option Int):(cutV xs lo hi).length≤xs.length:=by
 unfold cutV;rw[aaB,aeF];omega
noncomputable def rSlT(K:LD):V->Option Int->Option Int->Hp->VK->Prop:=λx lo hi H Q=>∃a xs,x = .ref a/\SqT K H a xs/\
 ¬(HT.sIx xs.length 0 lo=0/\HT.sIx xs.length xs.length hi=xs.length)/\∀p,H p=none->Q (.ref p) (upd H p (.tup (cutV xs lo hi)))
theorem Oz:SlR X (rSlT X.K):=by
 intro pins s σ H x v vl w lo hi u Q I k hs p m h;let⟨a,xs,rfl,l,o,q⟩:=h;cases k;let⟨its,r,j,i⟩:=I.tuple l;have g:its.toArray.size=xs.length:=by rw[aav];exact r.length.symm
 refine⟨"tuple",_,abq.lookup,j.typeIs,?_⟩;refine HT.getItem_tuple_cut j hs p m (by rw[g];exact o) ?_ (by rw[g];exact i);rw[g];refine⟨.ref s.heap.objs.size,_,I.laid (t':=s.toks) (λb t q=>AD _ q) (Ad _) ?_,rfl,q _ (I.hok.fresh (Ad _))⟩;exact⟨aak (j6 xs lo hi) i,_,(r.drop _).take _,PlainT.new _ _⟩
noncomputable def Sw(K:LD):R2:=λx y H Q=>∃a b xs g,x = .ref a/\y = .ref b/\SqT K H a xs/\SqT K H b g/\xs≠[]/\xs.length+g.length≤aad/\
 (g=[]->Q (.ref a) H)/\(g≠[]->∀p,H p=none->Q (.ref p) (upd H p (.tup (xs++g))))
theorem Vals.nil_iff{u:List lD}(r:Vals xs u):u=[]↔xs=[]:=by
 cases r with
 |nil=>simp
 |cons _ _=>simp
theorem Iz:OpR X (acs .Add) (Sw X.K):=by
 intro pins s σ H x y v u Q I j o h;let⟨a,b,xs,A,rfl,rfl,ha,hb,l,g,k,m⟩:=h;cases j;cases o;let⟨its,r1,p,_⟩:=I.tuple ha;let⟨i,r,f,_⟩:=I.tuple hb;refine HT.cat_tup p f (λz=>l (r1.nil_iff.mp z)) (λz=>⟨.ref a,H,I,rfl,k (r.nil_iff.mp z)⟩) (λz=>?_) (by rw[<-r1.length,<-r.length];exact g);refine⟨.ref s.heap.objs.size,_,I.laid (t':=s.toks) (λb t q=>AD _ q) (Ad _) ?_,rfl,m (λw=>z (r.nil_iff.mpr w)) _ (I.hok.fresh (Ad _))⟩;exact⟨by rw[aaj];exact g,_,r1.append r,PlainT.new _ _⟩
end
noncomputable def ixN(n:Nat)(i:Int):Option Nat:=if 0≤i then(if i<n then some i.toNat else none)else if -(n:Int)≤i then some (i+n).toNat else none
noncomputable def atI{α:Type}(xs:List α)(i:Int):Option α:=(ixN xs.length i).bind λj=>xs[j]?
theorem yH{i:Int}{j:Nat}(h:ixN n i=some j):seqIndex? i n=some j/\j<n/\-(n:Int)≤i/\i<n:=by
 unfold ixN at h
 by_cases h0:0≤i
 .rw[if_pos h0]at h
  by_cases a:i<n
  .rw[if_pos a]at h;have e:=aal h;exact⟨by rw[seqIndex_of h0 a,e],by omega,by omega,a⟩
  .simp_all
 .rw[if_neg h0]at h
  by_cases a : -(n:Int)≤i
  .rw[if_pos a]at h;have e:=aal h;exact⟨by rw[ahA (by omega) a,e],by omega,a,by omega⟩
  .simp_all
theorem rm{xs:List α}{i:Int}{v:α}(h:atI xs i=some v):∃j,seqIndex? i xs.length=some j/\xs[j]?=some v/\j<xs.length/\-(xs.length:Int)≤i/\i<xs.length:=by
 unfold atI at h
 cases e:ixN xs.length i with
 |none=>rw[e]at h;cases h
 |some j=>
  rw[e]at h;let⟨b,a,c,d⟩:=yH e;exact⟨j,b,h,a,c,d⟩
theorem aB{xs:List α}{j:Nat}{v:α}(h:xs[j]?=some v):atI xs (j:Int)=some v:=by
 have a:=(DL.mp h).1;have e:ixN xs.length j=some j:=by
  unfold ixN
  simp_all
 unfold atI;rw[e];exact h
noncomputable def rq(b:Expr):Prop:=∀o i,agJ b false o i=operate [o,i] (aeO o i)
noncomputable def IxR(X:Cx)(r:R2):Prop:=
 ∀(b a:Expr) (pins:List (Addr×Obj)) (s:mT) (σ:St) (H:Hp) (x y:V) (v u:lD) (Q:VK),Inv X pins σ H s->RelV x v->RelV y u->r x y H Q ->
  agJ a false v u=operate [v,u] (aeO v u)->wpAny (model X.prog X.w) X.A (subscriptTail b a v u) (EP X pins σ Q) X.xe s
noncomputable def MtR(X:Cx)(id:String)(r:V->List V->Hp->VK->Prop):Prop:=
 ∀(pins:List (Addr×Obj)) (s:mT) (σ:St) (H:Hp) (x:V) (xs:List V) (v:lD) (u:List lD) (Q:VK),Inv X pins σ H s->RelV x v->Vals xs u->r x xs H Q ->
  wpAny (model X.prog X.w) X.A (call (.builtin id) (v::u)) (EP X pins σ Q) X.xe s
section
variable {X:Cx}{a b:Expr}{ta tb:TE}{pos:Pos}
theorem RQ{r:R2}(hr:IxR X r)(ha:PE X a ta)(hb:PE X b tb)(hs:rq b):PE X (.Subscript a b pos) (tOp r ta tb):=by
 intro pins s σ H Q I h;exact Subscript_ (binT ha hb I h λv u s2 x y f c d e q=>hr a b pins s2 σ f x y v u Q c d e q (hs _ _))
noncomputable def rIxL(K:LD):R2:=λx y H Q=>∃p xs i v,x = .ref p/\y = .int i/\SqL K H p xs/\atI xs i=some v/\Q v H
noncomputable def rIxT(K:LD):R2:=λx y H Q=>∃p xs i v,x = .ref p/\y = .int i/\SqT K H p xs/\atI xs i=some v/\Q v H
noncomputable def rIxS:R2:=λx y H Q=>∃z i c,x = .str z/\y = .int i/\z.length≤aad/\atI z.cps.toList i=some c/\Q (.str ⟨#[c]⟩) H
theorem Jm:IxR X (rIxL X.K):=by
 intro d g pins s σ H x y v u Q I m C h hs;let⟨p,xs,i,z,rfl,rfl,D,B,q⟩:=h;cases m;let⟨t,rfl⟩:=C;let⟨its,r,e,J⟩:=I.list D;let⟨j,c,l,F,E,A⟩:=rm B;let⟨w,k,f⟩:=r.get l;have o:=r.length;have G:=lU;have fin:EP X pins σ Q w s:=⟨z,H,I,f,q⟩
 by_cases h0:0≤i
 .have hj:i.toNat=j:=by
   rw[seqIndex_of h0 A]at c;exact aal c
  exact item_listR e.isList h0 (by omega) (by rw[hj];simpa using k) fin hs
 .have hj:(i+(its.toArray.size:Int)).toNat=j:=by
   rw[ahA (by omega) E]at c;rw[aav,<-o];exact aal c
  exact agj (x:=w) e.isList.typeIs slot_list_getitem.lookup
   (wpAny_getItem_list_neg e.isList (by omega) (by simp_all) (by omega) (by rw[hj];simpa using k) ⟨rfl,fin⟩) hs
theorem Ml:IxR X (rIxT X.K):=by
 intro c e pins s σ H x y v u Q I k A h hs;let⟨p,xs,i,z,rfl,rfl,B,o,q⟩:=h;cases k;let⟨t,rfl⟩:=A;let⟨its,r,f,F⟩:=I.tuple B;let⟨j,l,g,C,J,D⟩:=rm o;let⟨w,G,d⟩:=r.get g;have m:=r.length;have E:=lU;have fin:EP X pins σ Q w s:=⟨z,H,I,d,q⟩;exact agj f.typeIs slot_tuple_getitem.lookup
  (getItem_tuple f (by omega) (by omega) (by rw[aav,<-m];exact l) (by simpa) ⟨rfl,fin⟩) hs
theorem Kl:IxR X rIxS:=by
 intro d e pins s σ H x y v u Q I r w h hs;let⟨z,i,c,rfl,rfl,C,p,q⟩:=h;let⟨t,rfl⟩:=r;let⟨D,rfl⟩:=w;let⟨j,f,g,B,A,o⟩:=rm p;have k:z.cps.toList.length=z.length:=by simp[Str.length]
 rw[k]at f A o;have E:=lU;exact tail_any (typeIs_str s z t) slot_str_getitem.lookup (getItem_str (by
  have l:decide (i < -(2^63:Int))=false:=decide_eq_false (by omega);have m:decide (i≥2^63)=false:=decide_eq_false (by omega);rw[l,m,Bool.or_false]) (by rw[f];simpa using g) ⟨.str ⟨#[c]⟩,H,I.tok _,⟨_,rfl⟩,q⟩) hs
def vq(its:List lD)(n j:Nat)(u:lD):acN (·.setIfInBounds j u) {cls:=.type "list",data:=.seq its.toArray n}={cls:=.type "list",data:=.seq (its.set j u).toArray n}:=by
 simp[acN]
def Inv.lst{s:mT}{p:Addr}(I:Inv X pins σ H s)(h:H p=some (.lst xs)) :
  ∃(its:List lD) (n:Nat),Vals xs its/\s.heap.get? p=some {cls:=.type "list",data:=.seq its.toArray n}/\xs.length≤aad:=by
 let⟨z,its,n,r,e⟩:=I.hok p _ h;exact⟨its,n,r,e,z⟩
def Inv.lstUpd{s:mT}{p:Addr}{ys:List V}{n':Nat}{f:Obj->Obj}(I:Inv X pins σ H s)(h:H p=some (.lst xs))
  (ho:s.heap.get? p=some {cls:=.type "list",data:=.seq its.toArray n}) (c:f {cls:=.type "list",data:=.seq its.toArray n}={cls:=.type "list",data:=.seq its'.toArray n' }) (r:Vals ys its') (d:ys.length≤aad) (t:Nat) :
  Inv X pins σ (upd H p (.lst ys)) {s with heap:=s.heap.update p f,toks:=t}:=by
 have e:(s.heap.update p f).get? p=some {cls:=.type "list",data:=.seq its'.toArray n' }:=by
  rw[acS f ho (by rw[c]<;>rfl),c]
 refine I.write (by rw[h];trivial) (.inl rfl) (λb u hb q=>(acJ _ _ (abf hb)).trans q) ⟨_,e⟩ ?_;exact⟨d,its',n',r,e⟩
noncomputable def QT:V->V->V->Hp->(Hp->Prop)->Prop:=λo i v H Q=>∃p xs k j,o = .ref p/\i = .int k/\H p=some (.lst xs)/\ixN xs.length k=some j/\Q (upd H p (.lst (xs.set j v)))
theorem Ba:PSet X QT:=by
 intro pins s σ H o i v A B u Q I e m w h;let⟨p,xs,k,j,rfl,rfl,hp,y,q⟩:=h;cases e;let⟨t,rfl⟩:=m;let⟨its,n,r,ho,l⟩:=I.lst hp;let⟨c,z,f,x⟩:=yH y;have g:=r.length;have C:=lU;have d:=
  I.lstUpd hp ho (vq its n j u) (r.set w j) (by rw[abj];exact l) s.toks
 by_cases h0:0≤k
 .have hk:k.toNat=j:=by
   rw[seqIndex_of h0 x]at c;exact aal c
  exact PySem.W.ki_setAt ho h0 (by omega) (by simp_all) (by rw[hk];exact⟨_,d,q⟩)
 .have hk:(k+(its.toArray.size:Int)).toNat=j:=by
   rw[ahA (by omega) f]at c;rw[aav,<-g];exact aal c
  exact PySem.W.ki_setBack ho (by omega) (by simp_all) (by omega) (by rw[hk];exact⟨_,d,q⟩)
theorem qv(lo hi:Option Int)(n:Nat):(aee lo hi none n).1=((HT.sIx n 0 lo:Nat):Int)/\(aee lo hi none n).2.1=((HT.sIx n n hi:Nat):Int)/\(aee lo hi none n).2.2=1:=by
 refine⟨?_,?_,rfl⟩
 .cases lo with
  |none=>simp[aee,HT.sIx]
  |some i=>
   simp only[aee,HT.sIx,ahM,show(1:Int)>0 by decide,if_true]
   by_cases h:i<0
   .simp only[h,if_true]<;>omega
   .simp only[h,if_false]<;>omega
 .cases hi with
  |none=>simp[aee,HT.sIx]
  |some i=>
   simp[aee,HT.sIx,ahM,show(1:Int)>0 by decide,if_true]
   by_cases h:i<0
   .simp only[h,if_true]<;>omega
   .simp only[h,if_false]<;>omega
def mD(its:List lD)(lo hi:Option Int):slicePick its.toArray lo hi none=((its.drop (HT.sIx its.length 0 lo)).take (HT.sIx its.length its.length hi-HT.sIx its.length 0 lo)).toArray:=by
 let⟨c,h,d⟩:=qv lo hi its.toArray.size;unfold slicePick;rw[c,h,d];simp only[sliceRange_one,pick_run]<;>rfl
noncomputable def rSlL(K:LD):V->Option Int->Option Int->Hp->VK->Prop:=λx l h H Q=>∃a xs,x = .ref a/\SqL K H a xs/\∀p,H p=none->Q (.ref p) (upd H p (.lst (cutV xs l h)))
theorem IQ:SlR X (rSlL X.K):=by
 intro pins s σ H x v vl m l e k Q I f hs p i h;let⟨a,xs,rfl,g,q⟩:=h;cases f;let⟨its,r,d,j⟩:=I.list g;have c:=r.length;refine⟨"list",_,slot_list_getitem.lookup,d.isList.typeIs,?_⟩;refine wpAny_getItem_list_slice d.isList hs p i .none (by simp) ?_ (by grind);rw[mD,<-c];refine⟨.ref s.heap.objs.size,_,I.laid (t':=s.toks) (λb o q=>AD _ q) (Ad _) ?_,rfl,q _ (I.hok.fresh (Ad _))⟩;exact⟨aak (j6 xs l e) j,_,0,(r.drop _).take _,aaa _ rfl⟩
theorem jn:di X (.builtin "len") (λxs H Q=>∃p ys,xs=[.ref p]/\(SqL X.K H p ys\/SqT X.K H p ys)/\Q (.int ys.length) H):=by
 intro pins s σ H xs g Q I r h;let⟨p,ys,rfl,d,q⟩:=h;let⟨u,rfl,e⟩:=vw r;cases e;have f:=lU;rcases d with d|d
 .obtain⟨its,r',pl,hz⟩:=I.list d;have c:=r'.length;exact Calls.call_len_list pl.isList (by simp only[aav]<;>omega) ⟨.int ys.length,H,I.tok _,⟨s.toks+1,by rw[aav,c]⟩,q⟩
 .obtain⟨its,r',pl,hz⟩:=I.tuple d;have c:=r'.length;exact len_tuple pl (by simp only[aav]<;>omega) ⟨.int ys.length,H,I.tok _,⟨s.toks+1,by rw[aav,c]⟩,q⟩
theorem pC:di X (.builtin "len") (λxs H Q=>∃z,xs=[.str z]/\z.length≤aad/\Q (.int z.length) H):=by
 intro pins s σ H xs e Q I r h;let⟨z,rfl,d,q⟩:=h;let⟨u,rfl,t,rfl⟩:=vw r;have c:=lU;exact len_str (by omega) ⟨.int z.length,H,I.tok _,⟨_,rfl⟩,q⟩
theorem om:di X (.type "tuple") (λxs H Q=>∃p ys,xs=[.ref p]/\((SqL X.K H p ys/\∀l,H l=none->Q (.ref l) (upd H l (.tup ys)))\/(SqT X.K H p ys/\Q (.ref p) H))):=by
 intro pins s σ H xs k Q I r h;let⟨p,ys,rfl,h⟩:=h;let⟨u,rfl,g⟩:=vw r;cases g;rcases h with⟨c,q⟩|⟨c,q⟩
 .obtain⟨its,r',pl,hz⟩:=I.list c;have d:=r'.length;refine call_tuple_list pl.isList (λi kp=>?_) (by simp_all);have f:=I.kept (t':=s.toks) kp;have j:=
   f.laid (t':=s.toks) (λb o e=>AD _ e) (Ad _) (show ObjOk X.prog X.w _ _ _ (.tup ys)from⟨hz,its,r',PlainT.new _ _⟩)
  exact⟨.ref i.objs.size,_,j,rfl,q _ (f.hok.fresh (Ad _))⟩
 .obtain⟨its,r',pl,hz⟩:=I.tuple c;exact call_tuple_same pl ⟨.ref p,H,I,rfl,q⟩
noncomputable def tyV(K:LD)(T:String)(x:V)(H:Hp):Prop:=match x with
 | .str _=>T = "str"
 | .int _=>T = "int"
 | .ref p=>(T = "list"/\∃xs,SqL K H p xs)\/(T = "tuple"/\∃xs,SqT K H p xs) \/
   (T = "dict"/\((∃k,H p=some (.dK k))\/∃k,H p=some (.dT k)))\/(T = "set"/\∃S n,H p=some (.set S n))
 |_=>False
theorem Qh{s:mT}{T:String}{x:V}{v:lD}(I:Inv X pins σ H s)(r:RelV x v)(ty:tyV X.K T x H) :
  s.TypeIs v T/\∀a,v = .ref a->∃g,s.heap.get? a=some g/\g.dict=none:=by
 cases x with
 |str z=>
  let⟨t,rfl⟩:=r
  cases (show T = "str" from ty)
  exact⟨typeIs_str s z t,λ_ e=>nomatch e⟩
 |int i=>
  let⟨t,rfl⟩:=r
  cases (show T = "int" from ty)
  exact⟨agk s i t,λ_ e=>nomatch e⟩
 | ref p=>
  cases r;rcases ty with⟨rfl,xs,f⟩|⟨rfl,xs,f⟩|⟨rfl,h⟩|⟨rfl,S,n,h⟩
  .obtain⟨its,_,pl,_⟩:=I.list f;refine⟨pl.isList.typeIs,λa e=>?_⟩;cases e;let⟨o,n,e,c,hd,_⟩:=pl;exact⟨o,e,hd⟩
  .obtain⟨its,_,⟨o,e0,hc,hd,_⟩,_⟩:=I.tupleP f;refine⟨⟨o,e0,hc⟩,λa e=>?_⟩;cases e;exact⟨o,e0,hd⟩
  .have z:∃o,s.heap.get? p=some o/\o.ExactDict:=by
    rcases h with⟨k,h⟩|⟨k,h⟩
    .obtain⟨_,_,_,_,o,_,_,e,ex,_⟩:=I.hok p _ h;exact⟨o,e,ex⟩
    .obtain⟨_,_,_,_,o,_,_,e,ex,_⟩:=I.hok p _ h;exact⟨o,e,ex⟩
   let⟨o,e,ex⟩:=z;refine⟨⟨o,e,ex.1⟩,λa d=>?_⟩;cases d;exact⟨o,e,ex.2.1⟩
  .obtain⟨o,_,_,_,e,ex,_⟩:=I.hok p _ h;refine⟨⟨o,e,ex.1⟩,λa d=>?_⟩;cases d;exact⟨o,e,ex.2.1⟩
 |_=>exact adc ty
noncomputable def tBM(K:LD)(T:String)(r:V->List V->Hp->VK->Prop)(to:TE)(t:TA):TE:=λσ H Q=>to σ H λx c=>tyV K T x c/\t σ c λxs d=>r x xs d Q
variable {o e:Expr}{es:List Expr}{to:TE}{t:TA}{name:Str}{g d:Pos}{T id:String}{r:V->List V->Hp->VK->Prop}
theorem Kh(C:PlainAttrs T)(slot:Slot T name id)(k:typeOf (.builtin id)=pure (.type "method_descriptor"))(D:MtR X id r)(ho:PE X o to)(ha:PA X (e::es) t)
  (c:abz o name X.env (eval o X.env)=eval o X.env:=by rfl)
  (i:((acg d (aac (e::es) X.env)).all (λx=>!x.1)&&(afq d (adB [] X.env)).all (λx=>x.1.isSome)
   && decide ((e::es).length+([]:List ade).length+(if ([]:List ade).isEmpty then 0 else 1)<30))=true:=by rfl)
  (f:(g.endLine==d.line)=true:=by rfl) (hs:aac (e::es) X.env=(false,eval e X.env)::aac es X.env:=by rfl) (j:(acg d (aac es X.env)).any (·.1)=false:=by rfl) :
  PE X (.Call (.Attribute o name g) (e::es) [] d) (tBM X.K T r to t):=by
 intro pins s σ H Q I h;refine agl c i f rfl (thn (ho pins s σ H _ I h) λv s1 ⟨x,z,m,r1,ty,y⟩=>?_);let⟨q,p⟩:=Qh m r1 ty;refine⟨T,id,C,slot,k,q,p,?_⟩;have l:=ha d pins s1 σ z _ m y;rw[hs]at l⊢;refine adf ‹_› (agK ?_);exact thn l<|by intro w s2 ⟨vs,A,u,B,E⟩;exact D pins s2 σ A x vs v w Q u r1 B E
end
noncomputable def MtM(X:Cx)(id:String)(r:V->List V->Hp->VK->Prop):Prop:=
 ∀(pins:List (Addr×Obj)) (s:mT) (σ:St) (H:Hp) (x:V) (xs:List V) (v:lD) (u:List lD) (Q:VK),Inv X pins σ H s->RelV x v->Vals xs u->r x xs H Q ->
  wpAny (model X.prog X.w) X.A (call (.builtin id) (v::u)) (EP X pins σ Q) X.xe s
theorem Vals.one:∀{x:V}{a:List lD},Vals [x] a->∃u,a=[u]/\RelV x u
 |_,_,.cons r .nil=>⟨_,rfl,r⟩
theorem Vals.rep{xs:List V}{u:List lD}(h:Vals xs u):∀k:Nat,Vals (aai k xs).flatten (aai k u).flatten
 |0=>.nil
 |k+1=>by
  exact Vals.append h (Vals.rep h k)
theorem kQ(its:List lD):∀(k:Nat) (acc:List lD),
  ah5 (λx b=>x++b) acc.toArray (aai k its.toArray)=(acc++(aai k its).flatten).toArray
 |0,acc=>by simp
 | k+1,acc=>by
  have e:acc.toArray++its.toArray=(acc++its).toArray:=by simp
  have a:(acc++its)++(aai k its).flatten=acc++(aai (k+1) its).flatten:=by
   rw[adN,List.flatten_cons,abg]
  rw[<-a,<-kQ its k _,<-e,adN,acA]
section
variable {X:Cx}{p:List (Addr×Obj)}{a:St}{H:Hp}{s:mT}{l b:Addr}{xs ys c:List V}
def Inv.lset{f:Array lD->Array lD}{t':Nat}(I:Inv X p a H s)(g:H l=some (.lst xs))
  (e:s.heap.get? l=some {cls:=.type "list",data:=.seq its.toArray n}) (h:f its.toArray=its'.toArray) (d:Vals ys its') (j:ys.length≤aad) :
  Inv X p a (upd H l (.lst ys)) {s with heap:=s.heap.update l (acN f),toks:=t' }:=by
 have q:=PySem.IsL.update e f;rw[h]at q;refine I.write (by rw[g];exact trivial) (.inl rfl) (λk u hb i=>(acJ s.heap _ (abf hb)).trans i) ⟨_,q⟩ ?_;exact⟨j,its',_,d,q⟩
def Inv.lnew{t':Nat}(I:Inv X p a H s)(h:Vals ys its)(d:ys.length≤aad) :
  Inv X p a (upd H s.heap.objs.size (.lst ys)) {s with heap:=s.heap.push {cls:=.type "list",data:=.seq its.toArray},toks:=t' }:=
 I.laid (λ_ _ q=>AD _ q) (Ad _) ⟨d,its,0,h,aaa _ rfl⟩
def Inv.fresh(I:Inv X p a H s):H s.heap.objs.size=none:=I.hok.fresh (Ad _)
def Inv.lstM(I:Inv X p a H s)(h:H l=some (.lst xs)):xs.length≤aad/\∃(its:List lD) (n:Nat),Vals xs its/\xs.length=its.length/\s.heap.get? l=some {cls:=.type "list",data:=.seq its.toArray n}:=by
 let⟨z,its,n,r,e⟩:=I.hok l _ h;exact⟨z,its,n,r,r.length,e⟩
def uv(h:n≤aad):adU n=false:=by
 exact decide_eq_false (by omega)
end
section
variable {X:Cx}
noncomputable def JK:V->List V->Hp->VK->Prop:=λx vs H Q=>∃l xs y,x = .ref l/\vs=[y]/\H l=some (.lst xs)/\xs.length<aad/\Q .non (upd H l (.lst (xs++[y])))
theorem po:MtM X "list.append" JK:=by
 intro pins s σ H x vs v f Q I b d h;let⟨l,xs,y,rfl,rfl,a,i,q⟩:=h;cases b;let⟨u,rfl,c⟩:=d.one;let⟨z,its,n,r,g,e⟩:=I.lstM a;refine ad7 F.slot_list_append ⟨_,e,rfl⟩ F.entry_list_append (F.args_list_append_2 _ _) (PySem.list_append l its.toArray n u (by grind)) ⟨e,?_⟩;refine⟨.non,_,I.lset (its':=its++[u]) a e (by simp) (r.append (.cons c .nil)) ?_,rfl,q⟩
 grind
noncomputable def F7:V->List V->Hp->VK->Prop:=λx vs H Q=>∃l b xs z,x = .ref l/\vs=[.ref b]/\H l=some (.lst xs)/\H b=some (.lst z)/\xs.length+z.length≤aad/\Q .non (upd H l (.lst (xs++z)))
theorem y6:MtM X "list.extend" F7:=by
 intro pins s σ H x vs v t Q I f p h;let⟨l,b,xs,A,rfl,rfl,d,o,B,q⟩:=h;cases f;let⟨u,rfl,k⟩:=p.one;cases k;let⟨z,its,n,r,w,e⟩:=I.lstM d;let⟨y,i,n2,m,g,j⟩:=I.lstM o;have c:its.toArray.size+i.toArray.size≤aad:=by rw[aav,aav];omega
 have a:¬(!its.toArray.isEmpty&&adU (its.toArray.size+i.toArray.size))=true:=by
  rw[uv c,Bool.and_false];exact aax
 refine ad7 F.slot_list_extend ⟨_,e,rfl⟩ F.entry_list_extend (F.args_list_extend_2 _ _)
  (AutoSeq1.list_extend_list_list_0 l its.toArray n b i.toArray n2 a (by grind) (by omega)) ⟨e,j,?_⟩
 refine⟨.non,_,I.lset (its':=its++i) d e (by simp) (r.append m) ?_,rfl,q⟩;rw[aaj];omega
noncomputable def rRep:R2:=λx y H Q=>∃l k xs,x = .ref l/\y = .int k/\H l=some (.lst xs)/\-(2^63)≤k/\k<2^63/\xs.length*k.toNat≤aad/\
 ∀p,H p=none->Q (.ref p) (upd H p (.lst (aai k.toNat xs).flatten))
def AA(xs:List α)(k:Nat):(aai k xs).flatten.length=k*xs.length:=by simp
theorem KZ:OpR X (acs .Mult) rRep:=by
 intro pins s σ H x y v u Q I A G h;let⟨l,k,xs,rfl,rfl,j,w,o,i,q⟩:=h;cases A;let⟨t,rfl⟩:=G;let⟨z,its,n,r,B,e⟩:=I.lstM j;have g:its.toArray.size*k.toNat≤aad:=by rw[aav,<-B];exact i
 have f:¬its.toArray.size*k.toNat>(2^63-1)/8:=by
  have:(aad:Nat)≤(2^63-1)/8:=by decide
  omega
 have d:¬(!ac8.List.listFitsIndex k)=true:=by
  rw[fitsIndex_both w o];exact aax
 have b:¬adU (its.toArray.size*k.toNat)=true:=by
  rw[uv g];exact aax
 have c:ah5 (λC E=>C++E) #[] (aai (if its.toArray.isEmpty=true then 0 else k.toNat) its.toArray)=(aai k.toNat its).flatten.toArray:=by
  have D:=λm=>by
   have:=kQ its m [];rw[acB]at this;exact this
  rw[D]
  cases its with
  |nil=>simp
  |cons a J=>rw[if_neg (by simp)]
 refine afF (T:= "list") (U:= "int") (by decide) ⟨_,e,rfl⟩ (λp=>agk p k t) noFill_list_mul F.fills_int_mul F.slot_int_rmul repeat_list F.slot_int_index.lookup
  (ad7 F.slot_int_rmul (agk s k t) F.entry_int_rmul (F.args_int_rmul_2 _ _) (int___rmul___int_list k t l its.toArray n)
   ⟨e,rfl,⟨_,e,rfl⟩,ad7 F.slot_list_mul ⟨_,e,rfl⟩ F.entry_list_mul (F.args_list_mul_2 _ _) (AutoListH.list___mul___list_int_3 l its.toArray n k t d f b) ⟨e,?_⟩⟩)
 rw[c];exact⟨.ref _,_,I.lnew (t':=s.toks) (r.rep k.toNat) (by rw[AA,abZ];exact i),rfl,q _ I.fresh⟩
end
end L2
namespace Att
open PySem PySem.W PySem.Calls PyProof.Rows
theorem kZ{P:Params}{h:aaX}:∀(ns:List Int) (vs:List lD),WellAll P h vs (ns.map WData.int)->ag0 vs ns:=by
 intro ns
 induction ns with
 |nil=>
  intro vs w;cases w;exact .nil
 | cons n ns i=>
  intro vs w
  cases w with
  |cons a b=>
   cases a;exact .cons _ _ (i _ b)
theorem w6{l:OpenLaw}{n:Nat}(q:l.most=some n){P:Params}{h:aaX}{args:List WData}{v:List lD}
  (b:l.row.toRowW.claim.pre args=true) (g:WellAll P h v args) :
  ∃a vs ns,v=[adq a]/\args=[WData.list (ns.map WData.int)]/\h.get? a=some {cls:=.type "list",data:=.seq vs.toArray}/\ag0 vs ns/\ns.length≤n:=by
 have f:WShape.hasAll [] args [.list .int]=true:=(pre_splitW b).1;have p:l.pre.holds [] {args:=args}=true:=(pre_splitW b).2;let⟨d,r,rfl,k,j⟩:=hasAllW_cons f;obtain rfl:=hasAllW_nil j;let⟨x,rfl,m⟩:=hasW_list k;let⟨ns,rfl⟩:=items_int m;have c:ns.length≤n:=by
  have i:=by
   have i:=(holds_andW p).1;rw[q]at i;omega
  have s:=condW_of i (w_not (w_lt w_lit (w_len_list (w_arg rfl))))
  simp_all
 cases g with
 |cons w o=>
  cases o
  cases w with
  |list ho e=>exact⟨_,_,ns,rfl,rfl,ho,kZ ns _ e,c⟩
def zr(l:OpenLaw)(args:List WData):l.row.toRowW.claim.post args (.bool true) args=true:=
 postW_of
  rfl
  (w_eq_bool (w_res rfl) w_lit) rfl
def attach_call{l:OpenLaw}{n:Nat}{q:aaD}{b:List Str}{X:(Str->Option lD)->aaX->Prop}{x:World->aaX->Prop}{d:DefRec}
  (F:l.most=some n) (m:d.params.defaults=[])
  (call:∀(w:World) (s₀ s:mT) (mg mb:Str->Option lD) (g:Addr) (o:Obj) (pm k c:lD) (a:Addr) (vs:List lD) (ns:List Int),
   Ground q b [] X w s₀ mg mb s.heap->x w s.heap ->
   s.heap.get? g=some o->o.data = .func (docDef d.name d.params d.body d.scope pm k c)->s.heap.CodeRec k d.name->mg d.name=some (.ref g) ->
   s.heap.get? a=some {cls:=.type "list",data:=.seq vs.toArray}->ag0 vs ns->ns.length≤n->s.gens = #[] ->
   aeN (model l.prog w) ag1 (.call (.ref g) ⟨[.ref a],[]⟩) (λr s'=>r = .ok (.ret (.bool true))/\OldK s.heap s'.heap/\s'.os=s.os/\afH s'.gens) s) :
  WalkO q b X x l.row.toRowW d [] (λf vs=>ah6 f vs):=by
 intro w s₀ s mg mb G Y g o pm k c D kV ho hd u y p I z v as j A C t H;obtain rfl:D = .none:=Dflts.none y m;obtain rfl:kV = .none:=Dflts.noKw y;let⟨a,vs,ns,rfl,rfl,e,h,i⟩:=w6 F j t;refine enter_call (afh (call w s₀ s mg mb g o pm k c a vs ns G Y ho (fd_plain hd) u p e h i I) λr s' E=>?_);let⟨rfl,B,J,L⟩:=E;exact⟨.inl ⟨.bool true,.bool true,[],rfl,λ_=>rfl,.bool true,zr l _,λ_=>⟨ahB,λ_ K=>(nomatch K)⟩⟩,B,J,L⟩
end Att
namespace L2
open PySem PySem.Spec PyProof.Rows
variable{P:MSt->Prop}{w:WS}{K:Kd}{mg:Str->Option lD}{a f l:Addr}{fd:acV}{qual x y:Str}{ns:List Int}{i j n nN q:Nat}{X:Cx}{st:Stmt}{N ps:List Str}{od:Option Addr}{A B:Prop}{env:Env}{scope:Scope}{c e elt t tg:Expr}{p pos pos':Pos}{ifs:List Expr}{tb:TS}{J:It}{fp:List Addr}{tn:Nat->aaX->Prop}{pins:List (Addr×Obj)}{σ σ':St}{H H' H0 H1 H2 Hb:Hp}{D:Ends}{E:lD->mT->Prop}{Q:VK}{vs xs:List V}{ds ds':List dL}{v:V}{ao:Ao}{α α' α1 β:Al}{τ:List (List Nat×Addr)}{r:R}{o:WO}{op:CmpOp}{sp:SpM}{ks:List Nat}{De:d7}{g:WG}{gs:WGs}{m1:MSt}{ob:R->Option Int->Option Int->MSt->(R->Prop)->Prop}{hi lo:Option Expr}{Ks:Src->MSt->Prop}
theorem qw:∀{vs:List lD}{ns:List Int},ag0 vs ns->Vals (ns.map V.int) vs
 |_,_,.nil=>.nil
 |_,_,.cons n t h=>.cons ⟨t,rfl⟩ (qw h)
noncomputable def Only(H:Hp):Prop:=∀b,H b=none\/∃o xs,H b=some (.frz o (.lst xs))
theorem Da{P:aaD}{w:World}{K:LD}{mb:Str->Option lD}{CX:CXT}{k:Nat}{fa:Addr}{sp:Sp}{C:mT}{vs:List lD}
  (KX:K.In C.heap) (S:C.heap.Ns aaK mg) (hb:C.heap.Ns builtinsNs mb) (hbb:∀x:Str,x ≠ "__name__" -> mb x=abb x) (Z:C.heap.NoLimit) (hsy:∃m,C.heap.Ns abv m) (hg:C.gens = #[])
  (ha:C.heap.get? a=some {cls:=.type "list",data:=.seq vs.toArray}) (hi:ag0 vs ns) (hl:ns.length≤aad) (hr:Room k ag1)
  (F:∀base:aaX,K.In base->base.Ns aaK mg->FnOk P w K mg base CX k fa fd [x] sp) (M:∀(s:mT) (u:lD),ahz s fd ⟨[u],[]⟩ [(x,u)])
  (hsp:∀H:Hp,Only H->SqL K H a (ns.map V.int)->sp [.ref a] H (λv _=>v = .bl true) λ_ _ _=>False)
  (hCX:∀H e s',CX [] H C (λ_ _ _=>False) e s'->False) :
  aeN (model P w) ag1 (.call (.ref fa) ⟨[.ref a],[]⟩) (λr s'=>r = .ok (.ret (.bool true))/\OldK C.heap s'.heap/\s'.os=C.os/\afH s'.gens) C:=by
 have rv:=qw hi;have W:=hi.length;have L:∀H:Hp,Only H->SqL K H a (ns.map V.int)->HOk P w H C.heap->(∀b,H b≠none->b=a)->(H a≠none->K.lookup a=none) ->
   aeN (model P w) ag1 (.call (.ref fa) ⟨[.ref a],[]⟩) (λr s'=>r = .ok (.ret (.bool true))/\OldK C.heap s'.heap/\s'.os=C.os/\afH s'.gens) C:=by
  intro H hO hS hok hA hK;have G:∀{b:Addr}{o:Obj},C.heap.get? b=some o->H b=none->(hidT C.heap H).get? b=some o:=λe n=>CB e n;have noA:∀{b:Addr}{o:Obj}{T:Array ab9}{R:Nat},C.heap.get? b=some o->o.data = .dict T R->H b=none:=λ{b o T R} e d=>by
   cases q:H b with
   |none=>rfl
   |some u=>
    have e':b=a:=hA b (by rw[q];simp);subst e';rw[ha]at e;cases e;have d':Data.seq vs.toArray _=Data.dict T R:=d;cases d'
  have I:∀{b:Addr}{m:Str->Option lD},C.heap.Ns b m->(hidT C.heap H).Ns b m:=λ{b m} ⟨o,T,R,e,d,r⟩=>⟨o,T,R,G e (noA e d),d,r⟩;have O:K.In (hidT C.heap H):=λb o e=>G (KX b o e) (by
   cases q:H b with
   |none=>rfl
   |some u=>
    have e':b=a:=hA b (by rw[q];simp);subst e';rw[hK (by rw[q];simp)]at e;cases e)
  have hM:Mod K mg (hidT C.heap H):=⟨O,I S,⟨mb,I hb,hbb⟩,let ⟨mc,h1,h2⟩:=Z;⟨mc,I h1,h2⟩,let ⟨m,h⟩:=hsy;⟨m,I h⟩⟩;have e0:Env0 P w K mg (hidT C.heap H) ag1 [] C H:=⟨rfl,hM,λb o e=>Im e,Nat.le_of_eq (wG _ _),trivial,λb hb=>absurd (show b∈([]:List Addr)from hb) (by simp),hok,.of_eq hg⟩;refine afh ((F _ O (I S)).run ag1 [] C H ⟨[.ref a],[]⟩ [.ref a] [.ref a] _ _ hr e0 (M C (.ref a)) (.cons rfl .nil) (hsp H hO hS)) λr s' h=>?_
  cases r with
  |error e=>exact(hCX H e s' h).elim
  | ok fl=>
   cases fl with
   |next=>exact adc h
   |brk=>exact adc h
   |cont=>exact adc h
   | ret u=>
    let⟨v,H',os,bare,un,Y,r',q⟩:=h;have q':v = .bl true:=q;subst q';obtain rfl:u=Value.bool true:=r';refine⟨rfl,OldK.of_keep λb o e=>?_,os,bare⟩
    cases q:H b with
    |none=>exact un.keep b o e q (by intro z;exact absurd (show b∈([]:List Addr)from z) (by simp)) (by simp)
    |some u=>
     rcases hO b with z|⟨ob,xs,z⟩
     .rw[q]at z;cases z
     .have z2:=un.frzs b ob _ z;let⟨e1,_⟩:=hok b _ z;let⟨e2,_⟩:=Y b _ z2;rw[e]at e1;cases e1;exact e2
 cases hk:K.lookup a with
 |some o=>
  have e:=KX a o hk;rw[ha]at e;cases e;refine L (λ_=>none) (λ_=>.inl rfl) (.inr ⟨_,vs.toArray,_,hk,rfl,rfl,rfl,by rw[aav,W];exact hl,by simpa using rv⟩) (λb u z=>by have U:(none:Option HO)=some u:=z;cases U) (λb z=>absurd rfl z) λz=>absurd rfl z
 | none=>
  refine L (λb=>if b=a then some (.frz {cls:=.type "list",data:=.seq vs.toArray} (.lst (ns.map V.int)))else none) (λb=>?_) (.inl (.inr ⟨{cls:=.type "list",data:=.seq vs.toArray},if_pos rfl⟩)) (λb u z=>?_) (λb z=>?_) λ_=>hk
  .by_cases hb:b=a
   .exact .inr ⟨_,_,if_pos hb⟩
   .exact .inl (if_neg hb)
  .by_cases hb:b=a
   .have U:=(if_pos hb).symm.trans z;cases U;subst hb;exact⟨ha,by rw[gE];exact hl,vs,_,rv,ha⟩
   .have U:=(if_neg hb).symm.trans z;cases U
  .by_cases hb:b=a
   .exact hb
   .exact absurd (if_neg hb) z
theorem Jd{l:ah0}{k:Nat}{q:aaD}{z:List Str}{XP:(Str->Option lD)->aaX->Prop}{W:World->aaX->Prop}{d:DefRec}{K:Params->LD}{CX:World->CXT}{sp:World->Sp}
  (hq:importsNone q=true) (hn:l.most=some n) (T:n≤aad) (O:d.params.defaults=[]) (hr:Room k ag1)
  (hY:∀(w:World) (h:aaX),W w h->(K w.params).In h)
  (F:∀(w:World) (mg:Str->Option lD) (M:Addr) (h:aaX),(K w.params).In h->h.Ns aaK mg->mg d.name=some (.ref M) ->
   ∃fd:acV,(∀(s:mT) (u:lD),ahz s fd ⟨[u],[]⟩ [(x,u)])/\
    ∀base:aaX,(K w.params).In base->base.Ns aaK mg->FnOk l.prog w (K w.params) mg base (CX w) k M fd [x] (sp w))
  (U:∀(w:World) (H:Hp) (a:Addr) (ns:List Int),ns.length≤n->Only H->SqL (K w.params) H a (ns.map V.int)->sp w [.ref a] H (λv _=>v = .bl true) λ_ _ _=>False)
  (S:∀(w:World) (H:Hp) (s:mT) (e:lD) (s':mT),CX w [] H s (λ_ _ _=>False) e s'->False) :
  ah9 q z XP W l.row.toRowW d [] (λf vs=>ah6 f vs):=by
 refine Att.attach_call hn O λw s₀ L mg mb M o pm cd doc a vs ns G Y ho hd hcd R I C b hg=>?_;have Z:=hY w _ Y;let⟨fd,hb,hF⟩:=F w mg M _ Z G.T.g R;exact Da Z G.T.g G.T.b G.T.builtins G.T.nolimit (by let⟨m,h,_⟩:=(G.T.seer hq).mods;exact⟨m,h⟩) hg I C (aak b T) hr hF hb (λH hO hS=>U w H a ns b hO hS) λH e s'=>S w H L e s'
noncomputable def kO(s:Stmt):Arguments:=match s with
 | .FunctionDef _ a _ _ _ _ _ _ _ _=>a
 |_=>{posonlyargs:=[],args:=[],vararg:=none,kwonlyargs:=[],kw_defaults:=[],kwarg:=none,defaults:=[]}
noncomputable def dU(s:Stmt):List Stmt:=match s with
 | .FunctionDef _ _ b _ _ _ _ _ _ _=>b
 |_=>[]
noncomputable def ac(s:Stmt):Scope:=match s with
 | .FunctionDef _ _ _ _ _ _ b _ _ _=>b
 |_=>{kind:=.function,names:=[],isGenerator:=false,isCoroutine:=false}
noncomputable abbrev CX0:CXT:=λ_ _ _ _ _ _=>False
noncomputable abbrev E0:XK:=λ_ _ _=>False
def Ql:um CX0 X E0:=λ_ _ _ _ _ _ _ h=>h.elim
structure Fun(K:LD)(x qual:Str)(st:Stmt)(f:Addr)(fd:acV):Prop where
 ex:∃(oc:lD) (od:Option Addr) (kV doc pm:lD) (an:Option Addr) (cdv ct:lD) (osl:Array (Option lD)),
  fd=adH x qual (kO st) (dU st) (ac st) .none kV doc pm an cdv ct/\K.lookup f=some ⟨oc,od,.func fd,osl⟩/\afp K cdv qual=true
 kp:adz K (.ref f)=true
section
variable {P:aaD}{w:World}{K:LD}{mg:Str->Option lD}{base:aaX}
theorem Fun.ok{k:Nat}{sp:Sp}(F:Fun K x qual st f fd)(S:am N ps (ac st))(len:∀vs H Q E,sp vs H Q E->vs.length=ps.length)
  (d:∀(b:lD) (A:aa6) (outer:List Env) (s:mT) (H:Hp) (vs:List V) (Q:VK) (E:XK),Room k (A.deeper (ae5 qual (ac st) s.heap.objs.size f b))->sp vs H Q E ->
   ∃t,PSs (cxOf CX0 P w K mg base N qual (ac st) f b A outer s H E).nox (dU st) t/\t {nx:=λ_ H'=>Q .non H',rt:=Q} (start N vs) H):FnOk P w K mg base CX0 (k+1) f fd ps sp:=by
 let⟨I,od,kV,G,pm,an,b,ct,z,rfl,C,u⟩:=F.ex;refine R8 C u S len λA outer s H vs Q E hr m=>?_;let⟨t,h,q⟩:=d b A outer s H vs Q E hr m;exact⟨t,h.nox,q⟩
theorem Fun.binds(F:Fun K x qual st f fd)
  (h:∀(kV d pm:lD) (an:Option Addr) (b ct:lD) (u:List lD),u.length=ps.length->bindArgs (adH x qual (kO st) (dU st) (ac st) .none kV d pm an b ct) ⟨u,[]⟩=pure (ps.zip u)):Binds K fd ps []:=by
 let⟨z,od,kV,d,pm,an,b,ct,k,rfl,s,m⟩:=F.ex;exact .all (h kV d pm an b ct)
def Lu{m:lD}{an:Option Addr}{h:Array (Option lD)}{kV d pm b ct:lD}(l:K.lookup f=some ⟨m,od,.func (adH x qual (kO st) (dU st) (ac st) .none kV d pm an b ct),h⟩)
  (c:afp K b qual=true) (k:adz K (.ref f)=true):Fun K x qual st f (adH x qual (kO st) (dU st) (ac st) .none kV d pm an b ct):=⟨⟨m,od,kV,d,pm,an,b,ct,h,rfl,l,c⟩,k⟩
end
theorem iteF(h:B):if false=true then A else B:=by simp_all
theorem iteT(h:A):if true=true then A else B:=by simp_all
noncomputable def aU(X:Cx)(scope:Scope)(cl:List (Str×Addr))(N:List Str)(s:mT)(H:Hp)(C:Addr)(ex:List Addr):Cx where
 prog:=X.prog
 w:=X.w
 K:=X.K
 mg:=X.mg
 base:=X.base
 A:=X.A
 N:=N
 s₀:=s
 H₀:=H
 env:=agL scope cl C X.env
 outer:=X.stack
 stack:=X.stack
 ex:=ex
 fn:=λ_=>false
 calm:=X.calm
 eb:=X.eb
 pn:=[]
 xe:=λ_ _=>False
theorem jc{env:Env}:∀{names:List (Str×aeT)}{acc:List (Str×Addr)},(∀y∈names,y.2 = .free->∃c,env.cells.lookup y.1=some c)->(∀x c,acc.lookup x=some c->env.cells.lookup x=some c) ->
  ∃cl,(forIn names acc λ(x:Str×aeT) (L:List (Str×Addr))=>if (x.2==aeP)=true then do let c <- cellOf env x.1;pure (ae6 ((x.1,c)::L))else pure (ae6 L):Sem (List (Str×Addr)))=pure cl/\
   (∀x c,cl.lookup x=some c->env.cells.lookup x=some c)/\(∀y∈names,y.2 = .free->∃c,cl.lookup y.1=some c)/\(∀x,(∃c,acc.lookup x=some c)->∃c,cl.lookup x=some c)
 |[],acc,_,ha=>⟨acc,rfl,ha,λy b=>absurd b (by simp),λ_ h=>h⟩
 | (n,k)::r,acc,h,ha=>by
  rw[ae7]
  by_cases F:k = .free
  .subst F;let⟨c,O⟩:=h (n,.free) Io rfl;have u:env.cells.lookup n=some c:=O;have M:cellOf env n=pure c:=by unfold cellOf;rw[u]
   let⟨cl,I,C,G,z⟩:=jc (env:=env) (names:=r) (acc:=(n,c)::acc) (λy b=>h y (Ge _ b)) (λx d s=>by
    rw[aci]at s
    cases hb:x==n with
    |true=>rw[hb]at s;cases s;rw[abA hb];exact u
    |false=>rw[hb]at s;exact ha x d s)
   refine⟨cl,?_,C,λy b m=>?_,λx s=>z x ?_⟩
   .simp only[beq_self_eq_true,if_true,M,pure_bind];exact I
   .obtain rfl|b:=aam.mp b
    .exact z n ⟨c,by rw[aci];simp⟩
    .exact G y b m
   .obtain⟨d,hd⟩:=s;rw[aci]
    cases hb:x==n with
    |true=>exact⟨c,rfl⟩
    |false=>exact⟨d,hd⟩
  .have hb:(k==aeP)=false:=by simpa using F
   let⟨cl,I,C,G,z⟩:=jc (env:=env) (names:=r) (acc:=acc) (λy b=>h y (Ge _ b)) ha;refine⟨cl,?_,C,λy b m=>?_,z⟩
   .simp only[hb,adg,if_false,pure_bind];exact I
   .obtain rfl|b:=aam.mp b
    .exact absurd m F
    .exact G y b m
theorem fx(h:∀y∈scope.names,y.2 = .free->∃c,env.cells.lookup y.1=some c) :
  ∃cl,closureFor scope env=pure cl/\(∀x c,cl.lookup x=some c->env.cells.lookup x=some c)/\∀y∈scope.names,y.2 = .free->∃c,cl.lookup y.1=some c:=by
 let⟨cl,e,k,b,_⟩:=jc (acc:=[]) h (λx c d=>by cases d);refine⟨cl,?_,k,b⟩;simp[closureFor]
 simp_all
noncomputable def PTs(X:Cx)(ifs:List Expr)(t:TT):Prop:=
 ∀(pins:List (Addr×Obj)) (s:mT) (σ:St) (H:Hp) (Q:Bool->Hp->Prop),Inv X pins σ H s->t σ H Q ->
  wpAny (model X.prog X.w) X.A (forIn ifs true λc r=>if r=true then do let ok <- isTrue c X.env (eval c X.env);pure (ae6 ok)else pure (ae6 r)) (TP X pins σ Q) X.xe s
noncomputable def Gv:TT:=λ_ H Q=>Q true H
theorem IG:PTs X [] Gv:=λ_ _ _ H _ I h=>wpAny_tests_nil ⟨H,I,h⟩
theorem JJ{t:TT}(b:PT X c t):PTs X [c] t:=λpins s σ H Q I h=>wpAny_tests_one (b pins s σ H Q I h)
noncomputable def PB(X:Cx)(bd:Sem PUnit)(t:TS):Prop:=
 ∀(pins:List (Addr×Obj)) (s:mT) (σ:St) (H:Hp) (D:Ends),Inv X pins σ H s->t D σ H->wpAny (model X.prog X.w) X.A bd (λ_ b=>∃σ' H',Inv X pins σ' H' b/\D.nx σ' H') X.xe s
noncomputable def qY(J:It)(g:TG)(tb:TS):TS:=λD σ H=>∃W:Nat->Nat->St->Hp->Prop,(∃m,W 0 m σ H)/\∀i m σ H,W i m σ H ->
 (J.stop i H/\D.nx σ H)\/(J.go i H/\∃N:St->Hp->Prop,(∀σ' H',N σ' H'->∃d,d<m/\W (i+1) d σ' H')/\∀x H',J.yld i H x H'->g x σ H' λb H2=>tb {D with nx:=N,ct:=N,bk:=D.nx} b H2)
noncomputable def tIfT(tt:TT)(tb:TS):TS:=λD σ H=>tt σ H λb H1=>if b=true then tb D σ H1 else D.nx σ H1
noncomputable def vJ(l:Addr)(b:TE):TS:=λD σ H=>b σ H λx H1=>∃xs,H1 l=some (.lst xs)/\xs.length<aad/\D.nx σ (upd H1 l (.lst (xs++[x])))
theorem qX{gens:List Comprehension}{d:Nat}{G:Addr}{acc:lD}{ipos:Pos}{bd:Sem PUnit}{g:TG}{tt:TT}
  (L:compTurn (.ListComp elt gens scope pos) d (.ref G) acc X.env=(do
   adw ipos
   match <- ach (.ref G)with
   |none=>pure (.done .next)
   | some v=>
    ad2 tg (.ref G) v
    ad5 tg X.env v
    let mut ok:=true
    for c in ifs do
     if ok then ok <- isTrue c X.env (eval c X.env)
    if ok then bd
    again (.compLoop (.ListComp elt gens scope pos) d (.ref G) acc X.env)))
  (hx:X.xe=λ_ _=>False) (hc:X.calm=true) (T:Turn X.prog X.w X.K tg J fp G tn) (hg:PG X tg g) (ht:PTs X ifs tt) (hb:PB X bd tb)
  {s:mT} (I:Inv X pins σ H s) (st:tn 0 s.heap) (f:∀b∈fp,FpOk X pins H b) (h:qY J g (tIfT tt tb) D σ H) :
  aeN (model X.prog X.w) X.A (.compLoop (.ListComp elt gens scope pos) d (.ref G) acc X.env) (λr s'=>r = .ok .next/\∃σ' H',Inv X pins σ' H' s'/\D.nx σ' H') s:=by
 let⟨W,⟨m0,w0⟩,U⟩:=h;have F:∀{H':Hp},(∀b∈fp,H' b=none)->∀b∈fp,FpOk X pins H' b:=λhn b hb=>⟨hn b hb,(f b hb).2⟩;have nox:∀{α:Type}{t:Sem α}{Q:α->mT->Prop}{E:lD->mT->Prop}{s:mT},wpAny (model X.prog X.w) X.A t Q X.xe s->wpAny (model X.prog X.w) X.A t Q E s:=λh=>acy h (λ_ _ q=>q) λ_ _ z=>by
  rw[hx]at z;exact z.elim
 refine codeAny_loop rfl (λn s'=>∃i σ' H',Inv X pins σ' H' s'/\tn i s'.heap/\(∀b∈fp,H' b=none)/\W i n σ' H') ?_ m0 ⟨0,σ,H,I,st,λb hb=>(f b hb).1,w0⟩;intro n s3 ⟨i,C,H3,I3,R,S,w3⟩;show wpAny _ X.A ((compTurn (.ListComp elt gens scope pos) d (.ref G) acc X.env).onRaise (λx=>do noteFrame x X.env;theTreesLotGoes x)) _ _ s3;refine wpAny_noted ?_;rw[L];refine aD (m:=adw _) (ac1 (aD ?_));rcases U i n C H3 w3 with⟨stop,qn⟩|⟨go,N,hN,step⟩
 .refine thn (T.done X rfl rfl rfl hc i pins s3 C H3 _ I3 (F S) R stop) λr s4 ⟨hr,I4⟩=>?_;subst hr;exact Dl ⟨rfl,C,H3,I4,qn⟩
 .refine thn (T.item X rfl rfl rfl hc i pins s3 C H3 _ I3 (F S) R go) λr s4 ⟨u,hr,h4⟩=>?_;subst hr;refine aD (thn h4 λ_ s5 ⟨x,H5,I5,r5,y5,M,fr5⟩=>?_);have I5':=I5.pinned (F fr5) (T.obj _ _ M);refine aD (nox (thn (hg _ s5 C H5 x u _ I5' r5 (step x H5 y5)) λ_ s6 ⟨Y,H6,I6,q6⟩=>?_));refine aD (nox (thn (ht _ s6 Y H6 _ I6 q6) λok s7 ⟨H7,I7,q7⟩=>?_));have fin:∀{k:St}{O:Hp}{V:mT},Inv X (pins++p8 fp s5.heap) k O V->N k O->∃m,m<n/\∃i σ' H',Inv X pins σ' H' V/\tn i V.heap/\(∀b∈fp,H' b=none)/\W i m σ' H':=λ{k O V} Z n8=>by
   let⟨m',hm,w8⟩:=hN k O n8;refine⟨m',hm,i+1,k,O,Z.unpinned,T.keep _ _ _ M λb hb o e=>(Z.pin (b,o) (aa5 _ (aa5 _ (gi hb e)))).1,λb hb=>?_,w8⟩;let⟨o,e,_⟩:=T.obj _ _ M b hb;exact(Z.pin (b,o) (aa5 _ (aa5 _ (gi hb e)))).2.1
  cases ok with
  |false=>
   rw[if_neg aax]at q7;exact Dl ⟨rfl,fin I7 q7⟩
  |true=>
   rw[if_pos rfl]at q7;exact aD (nox (thn (hb _ s7 Y H7 _ I7 q7)<|by intro _ V ⟨k,O,Z,q8⟩;exact Dl ⟨rfl,fin Z q8⟩))
theorem s9{b:TE}(F:PE X elt b):PB X (do let _ <- call (.builtin "list.append") [.ref l,<-eval elt X.env]) (vJ l b):=by
 intro pins s σ H D I h;refine aD (thn (F pins s σ H _ I h) λu s1 ⟨x,H1,L,r1,xs,z,C,q⟩=>?_);refine aD (thn ?_ λ_ k G=>Dl G);exact thn (po pins s1 σ H1 (.ref l) [x] _ [u] (λv H'=>v = .non/\D.nx σ H') L rfl (.cons r1 .nil) ⟨l,xs,x,rfl,rfl,z,C,rfl,q⟩)<|by intro v k ⟨_,H',d,_,_,m⟩;exact⟨σ,H',d,m⟩
theorem dW(env:Env)(x:Str):∀names:List (Str×aeT),(names.map λ(n,k)=>if (k==aeP&&env.scope.kind == .function&&env.kindOf n==some .cell)then(n,aia)else(n,k)).lookup x =
  (names.lookup x).map λk=>if (k==aeP&&env.scope.kind == .function&&env.kindOf x==some .cell)then aia else k
 |[]=>rfl
 | (n,k)::r=>by
  have b:=dW env x r;rw[aar];dsimp only
  cases hx:x==n with
  |true=>
   have e:=abA hx;subst e
   by_cases h:(k==aeP&&env.scope.kind == .function&&env.kindOf x==some .cell)=true
   .simp only[aci,hx,acD,if_pos h]
   .simp only[aci,hx,acD,if_neg h]
  |false=>
   split
   .simp only[aci,hx];exact b
   .simp only[aci,hx];exact b
def gj{k:aeT}:∀{names:List (Str×aeT)},names.lookup x=some k->(x,k)∈names:=λh=>acG h
theorem kH(b:∀y∈scope.names,y.2≠.cell)(h:(ag2 scope env).names.lookup x=some .cell\/(ag2 scope env).names.lookup x=some .free):scope.names.lookup x=some .free:=by
 unfold ag2 at h;simp only[dW]at h
 cases e:scope.names.lookup x with
 |none=>rw[e]at h;rcases h with h|h<;>cases h
 |some k=>
  rw[e]at h;simp only[acD]at h;have m:=b _ (gj e)
  by_cases d:k = .free
  .rw[d]
  .simp_all
def qG(h:scope.names.lookup x=some .free):(ag2 scope env).names.lookup x=some .cell\/(ag2 scope env).names.lookup x=some .free:=by
 unfold ag2;simp only[dW,h,acD];split
 .exact .inl rfl
 .exact .inr rfl
noncomputable def gF(own:List Str)(ps:List Nat)(σ:St):St:=own.map (λ_=>none)++ps.map λi=>(σ[i]?).join
structure bW(own fr:List Str)(scope sc:Scope):Prop where
 kind:scope.kind = .function
 nocell:∀y∈scope.names,y.2≠.cell
 names:∀y∈scope.names,y.2 = .local->scope.names.lookup y.1=some .local
 there:∀y∈scope.names,y.2 = .free->sc.names.lookup y.1=some .cell\/sc.names.lookup y.1=some .free
 fr:∀x∈fr,scope.names.lookup x=some .free
section
variable {X:Cx}{scope sc:Scope}{own fr:List Str}{ps:List Nat}
theorem jY{n:Expr}{rest:List Comprehension}{bdy:Env->lD->Sem PUnit}{g:TG}{tt:TT}{tb:Addr->TS}{cl:List (Str×Addr)}{R:lD->Addr->Result->mT->Prop}
  (S:bW own fr scope sc) (hsc:X.env.scope=sc) (hps:ps.map (λi=>X.N[i]?)=fr.map some) (hc:X.calm=true) (F:∀x c,cl.lookup x=some c->X.env.cells.lookup x=some c) (hcl2:∀y∈scope.names,y.2 = .free->∃c,cl.lookup y.1=some c)
  (hturn:∀env it acc,compTurn (.ListComp elt (⟨tg,n,ifs,0⟩::rest) scope pos) 0 it acc env=(do
   adw n.pos
   match <- ach it with
   |none=>pure (.done .next)
   | some v=>
    ad2 tg it v
    ad5 tg env v
    let mut ok:=true
    for c in ifs do
     if ok=true then ok <- isTrue c env (eval c env)
    if ok then bdy env acc
    again (.compLoop (.ListComp elt (⟨tg,n,ifs,0⟩::rest) scope pos) 0 it acc env)))
  (hg:∀s H C ex,PG (aU X scope cl (own++fr) s H C ex) tg g) (ht:∀s H C ex,PTs (aU X scope cl (own++fr) s H C ex) ifs tt)
  (hb:∀s H C ex l,PB (aU X scope cl (own++fr) s H C ex) (bdy (agL scope cl C X.env) (.ref l)) (tb l))
  {s:mT}{it:Addr} (I:Inv X pins σ H s) (T:Turn X.prog X.w X.K tg J fp it tn) (st:tn 0 s.heap) (f:∀b∈fp,FpOk X pins H b)
  (h:∀l,H l=none->qY J g (tIfT tt (tb l)) {nx:=λ_ H'=>Q (.ref l) H',rt:=λ_ _=>False} (gF own ps σ) (upd H l (.lst [])))
  (hR:∀l C H' s',(∃m,s'.heap.Ns C m)->Inv X pins σ H' s'->FpOk X pins H' C->Q (.ref l) H'->R (.ref l) C (.ok .next) s') :
  wpAny (model X.prog X.w) X.A (newList []) (λacc s₃=>wpAny (model X.prog X.w) X.A (newFunctionEnv scope X.env.globals cl [] X.env.qual none .none (some X.env)) (λZ s₄=>
   aeN (model X.prog X.w) X.A (.compStart (.ListComp elt (⟨tg,n,ifs,0⟩::rest) scope pos) 0 (.ref it) acc {Z with scope:=ag2 scope X.env}) (R acc Z.locals) s₄) E s₃) E s:=by
 refine aaV (wpAny_newFunctionEnv S.nocell (by intro y hy;simp at hy) (λL U O=>?_) S.kind);have M:Inv X pins σ (upd H s.heap.objs.size (.lst [])) {s with heap:=s.heap.push {cls:=.type "list",data:=.seq ([]:List lD).toArray} }:=I.lnew (t':=s.toks) (ys:=[]) .nil (act _);generalize hS3:({s with heap:=s.heap.push {cls:=.type "list",data:=.seq ([]:List lD).toArray} }:mT)=G at M U O⊢;have hsz:G.heap.objs.size=s.heap.objs.size+1:=by rw[<-hS3];exact abx _ _
 have hl:H s.heap.objs.size=none:=I.hok.fresh (Ad _);have kept0:∀b o,s.heap.get? b=some o->G.heap.get? b=some o:=λb o e=>by rw[<-hS3];exact AD _ e
 have d:∀b o,G.heap.get? b=some o->L.get? b=some o:=λb o e=>O.extBut b o (aaS (OR e)) (AD _ e);have fpl:∀b∈fp,b<s.heap.objs.size:=λb hb=>by let⟨o,e,_⟩:=T.obj _ _ st b hb;exact OR e
 have fpH:∀b∈fp,(upd H s.heap.objs.size (.lst [])) b=none:=λb hb=>by rw[au (aaS (fpl b hb))];exact(f b hb).1
 have fpS:∀b∈fp,b∉frs X.stack:=λb hb z=>by
  rcases aam.mp (I.stkSub b z)with e|e
  .exact(f b hb).2.1 e
  .exact(f b hb).2.2.1 e
 have ok':(aU X scope cl (own++fr) G (upd H s.heap.objs.size (.lst [])) G.heap.objs.size fp).Ok:=by
  refine⟨I.ok.mod,S.kind,I.ok.glob,I.ok.blt,Ad _,λx y c h1 h2=>I.ok.inj x y c (F x c h1) (F y c h2),λx hx=>?_,λx c hf=>(by cases hf),I.ok.hd,I.ok.frames,.inl rfl,λb hb=>⟨?_,λx c hx=>(f b hb).2.2.2.2.1 x c (F x c hx)⟩,
   λb o e=>M.bs b o e,aak M.ok.bsz M.sz,λb o e hb=>?_,λb hb=>fpS b hb,M.stack,M.stkFree⟩
  .exact hcl2 (x,.free) (gj (kH S.nocell hx)) rfl
  .exact aaS (aan (fpl b hb) (by rw[hsz];exact ahX _))
  .rcases (f b hb).2.2.2.1 with z|z
   .exact I.ok.noex b o e z
   .exact absurd (aan (OR (I.ok.bs b o e).1) z) (ac0 _)
 have I4:Inv (aU X scope cl (own++fr) G (upd H s.heap.objs.size (.lst [])) G.heap.objs.size fp) [] (gF own ps σ) (upd H s.heap.objs.size (.lst [])) {G with heap:=L,toks:=G.toks+([]:List (Str×lD)).length}:=by
  refine⟨ok',rfl,M.bare,Un.kept d,⟨_,U,λi x v e1 V e3=>?_⟩,λx c e=>?_,M.hok.fresh (Ad _),λx c e=>M.freeC x c (F x c e),λp hp=>absurd (show p∈([]:List (Addr×Obj))from hp) (by simp),M.hok.kept d,?_⟩
  .have e1':(own++fr)[i]?=some x:=e1;unfold gF at V
   by_cases hi:i<own.length
   .rw[aaz (by simpa using hi),GE]at V
    cases q:own[i]? with
    |none=>rw[q]at V;cases V
    |some z=>rw[q]at V;cases V
   .rw[aay (by simpa using hi),gE,GE]at V;rw[aay (by simpa using hi)]at e1'
    cases q:ps[i-own.length]? with
    |none=>rw[q]at V;cases V
    | some p=>
     rw[q]at V;have W:(σ[p]?).join=some v:=aal V;have hσ:σ[p]?=some (some v):=by
      cases z:σ[p]? with
      |none=>rw[z]at W;cases W
      |some w=>rw[z]at W;cases w with
       |none=>cases W
       |some w=>cases W;rfl
     have hN:X.N[p]?=some x:=by
      have z:=congrArg (λl=>l[i-own.length]?) hps;simp only[GE,q,e1',acD,ahC]at z;exact z
     have hx:x∈fr:=oR e1';have hfr:=S.fr x hx;have Y:=S.there (x,.free) (gj hfr) rfl;let⟨m,hn,hlk⟩:=M.loc;let⟨u,ru,lk⟩:=hlk p x v hN hσ (by rw[hsc];exact .inr Y);refine⟨u,ru,.inr ⟨qG hfr,?_⟩⟩;rcases lk with⟨k,_⟩|⟨_,c,ec,z⟩
     .have k':X.env.scope.names.lookup x=some .local:=k;rw[hsc]at k';rcases Y with q2|q2<;>(rw[k']at q2;cases q2)
     .obtain⟨c',ec'⟩:=hcl2 (x,.free) (gj hfr) rfl;have:=F x c' ec';rw[ec]at this;cases this;let⟨o,ho,hd⟩:=z;exact⟨c,ec',o,d _ _ ho,hd⟩
  .obtain⟨v,o,ho,hd⟩:=M.cell x c (F x c e);exact⟨v,o,d _ _ ho,hd⟩
  .show(gF own ps σ).length=(own++fr).length;have:=congrArg aeU hps;rw[gE,gE]at this;unfold gF;rw[aaj,aaj,gE,gE,this]
 have f4:∀b∈fp,FpOk (aU X scope cl (own++fr) G (upd H s.heap.objs.size (.lst [])) G.heap.objs.size fp) [] (upd H s.heap.objs.size (.lst [])) b:=λb hb=>
  ⟨fpH b hb,(ok'.exf b hb).1,fpS b hb,.inl hb,(ok'.exf b hb).2,λp hp=>absurd (show p∈([]:List (Addr×Obj))from hp) (by simp)⟩
 have st4:tn 0 L:=T.keep 0 _ _ st λb hb o e=>d b o (kept0 b o e);have loop:aeN (model X.prog X.w) X.A (.compLoop (.ListComp elt (⟨tg,n,ifs,0⟩::rest) scope pos) 0 (.ref it) (.ref s.heap.objs.size) (agL scope cl G.heap.objs.size X.env)) (R (.ref s.heap.objs.size) G.heap.objs.size) {G with heap:=L,toks:=G.toks+([]:List (Str×lD)).length}:=by
  refine afh (qX (X:=aU X scope cl (own++fr) G (upd H s.heap.objs.size (.lst [])) G.heap.objs.size fp) (hturn _ _ _) rfl hc T (hg _ _ _ _) (ht _ _ _ _) (hb _ _ _ _ _) I4 st4 f4 (h _ hl)) λr s' ⟨er,σ5,H5,I5,q5⟩=>?_;subst er;have I6:Inv X pins σ H5 s':=M.call' (s':=s') I5.os I5.base I5.hok I5.bare λb hb=>⟨(f b hb).2.2.2.1,(f b hb).2.1,(f b hb).2.2.2.2.1,(f b hb).2.2.2.2.2⟩;have hm:∃m,s'.heap.Ns G.heap.objs.size m:=let ⟨m,hn,_⟩:=I5.loc;⟨m,hn⟩;exact hR _ _ H5 s' hm I6 (M.fpOk (Ad _) I5.free) q5
 exact codeAny_compStart_list loop (T.self _ 0 _ _ _ st4 loop)
noncomputable def z6(L:TI)(own:List Str)(ps:List Nat)(tl:Addr->It->TS):TE:=λσ H Q=>L σ H λJ H1=>∀l,H1 l=none->tl l J {nx:=λ_ H'=>Q (.ref l) H',rt:=λ_ _=>False} (gF own ps σ) (upd H1 l (.lst []))
noncomputable def tl1(g:TG)(tt:TT)(K:TE):Addr->It->TS:=λl J=>qY J g (tIfT tt (vJ l K))
noncomputable def tl2(g:TG)(tt:TT)(B:TI)(M:TG)(F:TT)(K:TE):Addr->It->TS:=λl J=>qY J g (tIfT tt λD σ H=>B σ H λb H1=>qY b M (tIfT F (vJ l K)) D σ H1)
theorem DF{Y:Cx}{z b A j:Expr}{u t:List Expr}{B:TI}{M:TG}{F:TT}{K:TE}(W:Y.xe=λ_ _=>False)(hc:Y.calm=true)(hi:PI Y A j B)(U:PG Y A M)(ht:PTs Y t F)(he:PE Y elt K)
  (hs:∀x,aaL j Y.env x=pure x) :
  PB Y (do
   let x <- eval j Y.env
   adw j.pos
   let x <- aaL j Y.env x
   let _ <- runOwn (.compStart (.ListComp elt [⟨z,b,u,0⟩,⟨A,j,t,0⟩] scope pos) 1 (<- adx [x] (ae4 x)) (.ref l) Y.env) Y.env) (λD σ H=>B σ H λR H1=>qY R M (tIfT F (vJ l K)) D σ H1):=by
 intro pins s σ H D I h;refine aD (thn (hi pins s σ H _ I h) λv s1 S=>?_);refine aD (ac1 (aD (wpAny_of_eq (hs v) (aD (abI (thn S λZ s2 O=>?_))))));let⟨it,fp,tn,J,H2,e,V,T,C,f2,q⟩:=O;subst e;have k:∀L,L=s2->aeN (model Y.prog Y.w) Y.A (.compLoop (.ListComp elt [⟨z,b,u,0⟩,⟨A,j,t,0⟩] scope pos) 1 (.ref it) (.ref l) Y.env) (λr G=>match r with| .ok f=>wpAny (model Y.prog Y.w) Y.A (pure PUnit.unit) (λ_ G=>∃σ' H',Inv Y pins σ' H' G/\D.nx σ' H') Y.xe G | .error e=>cameBackBy (model Y.prog Y.w) Y.A Y.env Y.xe e G) L:=by
  rintro L rfl;refine afh (qX (X:=Y) (elt:=elt) (gens:=[⟨z,b,u,0⟩,⟨A,j,t,0⟩]) (scope:=scope) (pos:=pos) (d:=1) (acc:=.ref l) (ipos:=j.pos) (ifs:=t)
   (bd:=do let _ <- call (.builtin "list.append") [.ref l,<-eval elt Y.env]) rfl W hc T U ht (s9 he) V C f2 q) λr G ⟨er,hq⟩=>?_
  subst er;exact Dl hq
 refine aD (wpAny_runOwn ?_);show aeN (model Y.prog Y.w) Y.A _ _ s2;refine codeAny_of_tree ?_;refine wpAny_notedAt ?_;unfold compStart;show wpAny _ _ (ask >>= _) _ _ s2;refine aD (m:=ask) (wpAny_askSetting (wpAny_ite ?_));split
 .first
   |exact aD (Dl (Dl (ahN rfl (k _ rfl))))
   |exact Dl (ahN rfl (k _ rfl))
 .first
   |exact aD (abH (aD (ac1 (aD (T.self _ 0 _ _ _ C (Dl (ahN rfl (k _ rfl))))))))
   |(refine aD (abH ?_);show wpAny _ _ (adw j.pos >>= _) _ _ s2;exact aD (ac1 (aD (T.self _ 0 _ _ _ C (Dl (ahN rfl (k _ rfl)))))))
theorem Inv.junk{s:mT}{C:Addr}(I:Inv X pins σ H s)(f:FpOk X pins H C){h':aaX}(hs:abk C s.heap h'):Inv X pins σ H {s with heap:=h' }:=
 I.turned (t':=s.toks) (λb o ne e=>(hs.2 b ne).trans e) f.1 f.2.1 f.2.2.2.1 f.2.2.2.2.1 f.2.2.2.2.2
variable {elt tg n:Expr}{ifs:List Expr}{pos G N:Pos}{L:TI}{g:TG}{tt:TT}{K:TE}
def mH{s:mT}(S:bW own fr scope sc)(h:X.env.scope=sc)(I:Inv X pins σ H s):∀y∈scope.names,y.2 = .free->∃c,X.env.cells.lookup y.1=some c:=λy d b=>
 I.ok.has y.1 (by show X.env.scope.names.lookup y.1=_\/X.env.scope.names.lookup y.1=_;rw[h];exact S.there y d b)
theorem Dt(S:bW own fr scope sc)(hi:PI X tg n L)(W:∀cl s H C ex,PG (aU X scope cl (own++fr) s H C ex) tg g)(ht:∀cl s H C ex,PTs (aU X scope cl (own++fr) s H C ex) ifs tt)
  (he:∀cl s H C ex,PE (aU X scope cl (own++fr) s H C ex) elt K) (b:X.env.scope=sc:=by rfl) (d:ps.map (λi=>X.N[i]?)=fr.map some:=by rfl) (hc:X.calm=true:=by rfl) (hs:∀x,aaL n X.env x=pure x:=by intro _;rfl) :
  PE X (.ListComp elt [⟨tg,n,ifs,0⟩] scope pos) (z6 L own ps (tl1 g tt K)):=by
 intro pins s σ H Q I h;let⟨cl,M,V,O⟩:=fx (mH S b I);refine adV (use:=none) rfl hs M S.kind S.names (thn (hi pins s σ H _ I h) λv s1 Z=>thn Z λitv s2 q2=>?_);let⟨F,fp,tn,J,H2,e,Y,T,u,f2,q⟩:=q2;subst e;exact jY S b d hc V O (λenv F k=>compTurn_list elt tg n ifs scope pos F k env)
  (W cl) (ht cl) (λs H C ex l=>s9 (he cl s H C ex)) Y T u f2 q λl C H' s' hm R fk U=>by
   let⟨m,hn⟩:=hm;exact⟨m,hn,λh' z=>⟨.ref l,H',R.junk fk z,rfl,U⟩⟩
theorem qH{s':mT}{C:Addr}{Q:St->Hp->Prop}(M:X.N.Nodup)(S:X.N[i]?=some y)(h:X.env.scope.names.lookup y=some .local)(O:∃m,s'.heap.Ns C m)(I:Inv X pins σ H' s')(d:FpOk X pins H' C)(q:Q (σ.set i (some (.ref l))) H') :
  wpAny (model X.prog X.w) X.A (ad5 (.Name y N) X.env (.ref l)) (λ_ s=>∃m,s.heap.Ns C m/\∀h',abk C s.heap h'->∃σ' b,Inv X pins σ' b {s with heap:=h' }/\Q σ' b) E s':=by
 let⟨m,R⟩:=O;refine wpAny_assign_Name (qF I M S (.inl h) (v:=.ref l) rfl (λs k ⟨a,hs,ha⟩=>?_) (.inr h));have F:C≠a:=by
  rcases ha with ha|ha
  .rw[ha];exact d.2.1
  .exact λz=>d.2.2.2.2.1 _ _ ha z.symm
 exact⟨m,R.sameBut hs F,λh' u=>⟨_,H',k.junk d u,q⟩⟩
theorem Dy(S:bW own fr scope sc)(Y:X.N.Nodup)(hy:X.N[i]?=some y)(z:X.env.scope.names.lookup y=some .local)(hi:PI X tg n L)(hg:∀cl s H C ex,PG (aU X scope cl (own++fr) s H C ex) tg g)(ht:∀cl s H C ex,PTs (aU X scope cl (own++fr) s H C ex) ifs tt)
  (he:∀cl s H C ex,PE (aU X scope cl (own++fr) s H C ex) elt K) (F:abQ (.ListComp elt [⟨tg,n,ifs,0⟩] scope pos) (some (.Name y N)) G.line X.env=pure true:=by rfl)
  (b:X.env.scope=sc:=by rfl) (d:ps.map (λi=>X.N[i]?)=fr.map some:=by rfl) (Z:X.calm=true:=by rfl) (hs:∀x,aaL n X.env x=pure x:=by intro _;rfl) :
  PS X (.Assign [.Name y N] (.ListComp elt [⟨tg,n,ifs,0⟩] scope pos) G) (tAsg (z6 L own ps (tl1 g tt K)) (DE i)):=by
 intro pins s σ H D I h;let⟨cl,R,U,O⟩:=fx (mH S b I);rw[show exec _ X.env=_ from agB _ _ _ _ F];refine aD (m:=adw _) (ac1 (aD ?_));refine aD (acy (adV rfl hs R S.kind S.names (thn (hi pins s σ H _ I h) λv s1 V=>thn V λitv s2 q2=>?_)) (λ_ s' hq=>Dl (Dl hq)) λ_ _ e=>e);let⟨M,fp,tn,J,H2,e,I2,T,k,f2,q⟩:=q2;subst e;exact jY (Q:=λv H'=>D.nx (σ.set i (some v)) H') (tb:=λl=>vJ l K) S b d Z U O (λenv M u=>compTurn_list elt tg n ifs scope pos M u env)
  (hg cl) (ht cl) (λs H C ex l=>s9 (he cl s H C ex)) I2 T k f2 q λl C H' s' hm I' W q'=>qH Y hy z hm I' W q'
variable {A j:Expr}{t:List Expr}{B:TI}{M:TG}{F:TT}
theorem lm(elt b n:Expr)(ifs:List Expr)(A j:Expr)(t:List Expr)(scope:Scope)(pos:Pos)(d acc:lD)(env:Env) :
  compTurn (.ListComp elt [⟨b,n,ifs,0⟩,⟨A,j,t,0⟩] scope pos) 0 d acc env=(do
   adw n.pos
   match <- ach d with
   |none=>pure (.done .next)
   | some v=>
    ad2 b d v
    ad5 b env v
    let mut ok:=true
    for c in ifs do
     if ok=true then ok <- isTrue c env (eval c env)
    if ok then
     (do
      let x <- eval j env
      adw j.pos
      let x <- aaL j env x
      let _ <- runOwn (.compStart (.ListComp elt [⟨b,n,ifs,0⟩,⟨A,j,t,0⟩] scope pos) 1 (<- adx [x] (ae4 x)) acc env) env)
    again (.compLoop (.ListComp elt [⟨b,n,ifs,0⟩,⟨A,j,t,0⟩] scope pos) 0 d acc env)):=by
 simp only[ bind_assoc];rfl
theorem CW(S:bW own fr scope sc)(hN:X.N.Nodup)(hy:X.N[i]?=some y)(V:X.env.scope.names.lookup y=some .local)(hi:PI X tg n L)(hg:∀cl s H C ex,PG (aU X scope cl (own++fr) s H C ex) tg g)(ht:∀cl s H C ex,PTs (aU X scope cl (own++fr) s H C ex) ifs tt)
  (hi2:∀cl s H C ex,PI (aU X scope cl (own++fr) s H C ex) A j B) (u:∀cl s H C ex,PG (aU X scope cl (own++fr) s H C ex) A M) (k:∀cl s H C ex,PTs (aU X scope cl (own++fr) s H C ex) t F)
  (he:∀cl s H C ex,PE (aU X scope cl (own++fr) s H C ex) elt K) (W:abQ (.ListComp elt [⟨tg,n,ifs,0⟩,⟨A,j,t,0⟩] scope pos) (some (.Name y N)) G.line X.env=pure true:=by rfl)
  (b:X.env.scope=sc:=by rfl) (d:ps.map (λi=>X.N[i]?)=fr.map some:=by rfl) (Y:X.calm=true:=by rfl) (hs:∀x,aaL n X.env x=pure x:=by intro _;rfl)
  (U:∀cl C x,aaL j (agL scope cl C X.env) x=pure x:=by intro _ _ _;rfl) :
  PS X (.Assign [.Name y N] (.ListComp elt [⟨tg,n,ifs,0⟩,⟨A,j,t,0⟩] scope pos) G) (tAsg (z6 L own ps (tl2 g tt B M F K)) (DE i)):=by
 intro pins s σ H D I h;let⟨cl,ec,h1,h2⟩:=fx (mH S b I);rw[show exec _ X.env=_ from agB _ _ _ _ W];refine aD (m:=adw _) (ac1 (aD ?_));refine aD (acy (adV (Q:=λ_ O=>SP X pins D .next O) rfl hs ec S.kind S.names (thn (hi pins s σ H _ I h) λv s1 q1=>thn q1 λitv s2 q2=>?_)) (λ_ O hq=>Dl (Dl hq)) λ_ _ e=>e);let⟨Z,fp,tn,J,H2,e,I2,T,z,f2,q⟩:=q2;subst e;exact jY (Q:=λv H'=>D.nx (σ.set i (some v)) H') S b d Y h1 h2 (λenv Z R=>lm elt tg n ifs A j t scope pos Z R env)
  (hg cl) (ht cl) (λs H C ex l=>DF rfl Y (hi2 cl s H C ex) (u cl s H C ex) (k cl s H C ex) (he cl s H C ex) (U cl C)) I2 T z f2 q λl C H' O hm I' fk q'=>qH hN hy V hm I' fk q'
end
noncomputable def FzL(K:LD)(H:Hp)(a:Addr)(xs:List V):Prop:=
 (∃o,H a=some (.frz o (.lst xs))) \/
  ∃(o:Obj) (b:Array lD) (n:Nat),K.lookup a=some o/\o.cls = .type "list"/\o.dict=none/\o.data = .seq b n/\b.size≤aad/\Vals xs b.toList
theorem FzL.sq{K:LD}(h:FzL K H a xs):SqL K H a xs:=by
 rcases h with⟨o,h⟩|h
 .exact .inl (.inr ⟨o,h⟩)
 .exact .inr h
structure Kd where
 K:LD
 w:World
noncomputable instance:Coe Kd LD:=⟨Kd.K⟩
mutual
noncomputable def d5(w:World):dL->Int
 | .int i=>hashInt i
 | .str x=>hashStr w x
 | .tuple ds=>reduceHash (abM (gN w ds))
 |_=>0
noncomputable def gN(w:World):List dL->List Int
 |[]=>[]
 |d::ds=>d5 w d::gN w ds
end
mutual
noncomputable def hkD:dL->Bool
 | .int _=>true
 | .str _=>true
 | .tuple ds=>hkA ds
 |_=>false
noncomputable def hkA:List dL->Bool
 |[]=>true
 |d::ds=>hkD d&&hkA ds
end
noncomputable def isKd(kvs:List (dL×dL)):Bool:=kvs.all λk=>match k.1 with| .int _=>true | .str _=>true|_=>false
noncomputable def wJ(kvs:List (dL×dL)):Prop:=isKd kvs=false/\(kvs.map (·.1)).Nodup/\∀k∈kvs.map (·.1),hkD k=true
noncomputable def dXp(a:Addr)(es:List (Int×V×V))(h:aaX):Prop:=
 (a==abv)=false/\es.length≤aad/\∃(o:Obj) (b:Array ab9) (c:Nat),h.get? a=some o/\o.ExactDict/\o.data = .dict b c/\
  abJ (λ(e:Int×V×V) (d:ab9)=>d.hash=e.1/\RelV e.2.1 d.key/\RelV e.2.2 d.val) es b.toList
noncomputable abbrev dX(a:Addr)(es:List (Int×V×V)):HO:=.ext (dXp a es)
noncomputable def FzD(H:Hp)(a:Addr)(es:List (Int×V×V)):Prop:=∃o,H a=some (.frz o (dX a es))
noncomputable def ClsN(K:Kd)(c:Str)(C:Addr):Prop:=abl K.K aaK c=some (some (.ref C))
noncomputable def QK(K:Kd)(H:Hp)(a:Addr)(c:Str)(xs:List (Str×V)):Prop:=
 ∃(o:Obj) (u:HO) (C:Addr),H a=some (.frz o u)/\o.cls = .ref C/\(∃vs,o.data = .fields vs)/\ClsN K c C/\((o.dict=none/\xs=[])\/∃(dx:Addr) (b:Obj),o.dict=some dx/\H dx=some (.frz b (.xd xs)))
noncomputable def keyD:Key->dL
 | .inl i=>.int i
 | .inr x=>.str x
noncomputable def excC:List (dL×dL)->Option Str
 |(.none,.str c)::_=>some c
 |_=>none
mutual
noncomputable def Den(K:Kd)(H:Hp):dL->V->Prop
 | .none,v=>v = .non
 | .bool b,v=>v = .bl b
 | .int i,v=>v = .int i
 | .str x,v=>v = .str x
 | .list ds,v=>∃a d,v = .ref a/\FzL K H a d/\DenAll K H ds d
 | .tuple ds,v=>∃a d,v = .ref a/\SqT K H a d/\DenAll K H ds d
 | .dict kvs,v=>∃a,v = .ref a/\((∃e,FzD H a e/\wJ kvs/\DenKV K H kvs e)\/(∃e o,H a=some (.frz o (.dK e))/\DenKK K H kvs e)\/∃c d,excC kvs=some c/\QK K H a c d/\DenXF K H kvs d)
noncomputable def DenAll(K:Kd)(H:Hp):List dL->List V->Prop
 |[],xs=>xs=[]
 |d::ds,xs=>∃v vs,xs=v::vs/\Den K H d v/\DenAll K H ds vs
noncomputable def DenKV(K:Kd)(H:Hp):List (dL×dL)->List (Int×V×V)->Prop
 |[],es=>es=[]
 |(k,d)::r,es=>∃u v vs,es=(d5 K.w k,u,v)::vs/\Den K H k u/\Den K H d v/\DenKV K H r vs
noncomputable def DenKK(K:Kd)(H:Hp):List (dL×dL)->List (Key×V)->Prop
 |[],es=>es=[]
 |(k,d)::r,es=>∃a v vs,es=(a,v)::vs/\(k=keyD a/\∀x∈vs,x.1≠a)/\Den K H d v/\DenKK K H r vs
noncomputable def DenXF(K:Kd)(H:Hp):List (dL×dL)->List (Str×V)->Prop
 |[],xs=>xs=[]
 |(k,d)::r,xs=>match k with
  | .str f=>∃v vs,xs=(f,v)::vs/\Den K H d v/\DenXF K H r vs
  |_=>DenXF K H r xs
end
structure Pers(H H':Hp):Prop where
 tups:∀b xs,H b=some (.tup xs)->H' b=some (.tup xs)
 frzs:∀b o u,H b=some (.frz o u)->H' b=some (.frz o u)
theorem Pers.trans(a:Pers H H1)(b:Pers H1 H2):Pers H H2:=⟨λc x e=>b.tups c x (a.tups c x e),λc o u e=>b.frzs c o u (a.frzs c o u e)⟩
section
variable {K:Kd}{H H':Hp}
theorem FzL.mono(p:Pers H H')(h:FzL K H a xs):FzL K H' a xs:=by
 rcases h with⟨o,h⟩|h
 .exact .inl ⟨o,p.frzs _ _ _ h⟩
 .exact .inr h
theorem SqT.mono(p:Pers H H')(h:SqT K H a xs):SqT K H' a xs:=by
 rcases h with(h|⟨o,h⟩)|h
 .exact .inl (.inl (p.tups _ _ h))
 .exact .inl (.inr ⟨o,p.frzs _ _ _ h⟩)
 .exact .inr h
mutual
theorem Den.mono(p:Pers H H'):∀{d:dL}{v:V},Den K H d v->Den K H' d v
 | .none,_,h=>h
 | .bool _,_,h=>h
 | .int _,_,h=>h
 | .str _,_,h=>h
 | .list ds,_,h=>by
  simp only[Den]at h⊢;let⟨a,x,e,f,g⟩:=h;exact⟨a,x,e,f.mono p,DenAll.mono p g⟩
 | .tuple ds,_,h=>by
  simp only[Den]at h⊢;let⟨a,x,e,f,g⟩:=h;exact⟨a,x,e,f.mono p,DenAll.mono p g⟩
 | .dict kvs,_,h=>by
  simp only[Den]at h⊢;let⟨a,e,h⟩:=h;refine⟨a,e,?_⟩;rcases h with⟨b,⟨o,f⟩,q,g⟩|⟨b,o,f,g⟩|⟨c,x,k,⟨o,u,C,n,t,s,j,i⟩,g⟩
  .exact .inl ⟨b,⟨o,p.frzs _ _ _ f⟩,q,DenKV.mono p g⟩
  .exact .inr (.inl ⟨b,o,p.frzs _ _ _ f,DenKK.mono p g⟩)
  .refine .inr <| .inr ⟨c,x,k,⟨o,u,C,p.frzs _ _ _ n,t,s,j,?_⟩,DenXF.mono p g⟩;rcases i with i|⟨dx,l,r,m⟩
   .exact .inl i
   .exact .inr ⟨dx,l,r,p.frzs _ _ _ m⟩
theorem DenAll.mono(p:Pers H H'):∀{ds:List dL}{xs:List V},DenAll K H ds xs->DenAll K H' ds xs
 |[],_,h=>h
 |d::ds,_,h=>by
  simp only[DenAll]at h⊢;let⟨v,vs,e,f,g⟩:=h;exact⟨v,vs,e,Den.mono p f,DenAll.mono p g⟩
theorem DenKV.mono(p:Pers H H'):∀{ds:List (dL×dL)}{xs:List (Int×V×V)},DenKV K H ds xs->DenKV K H' ds xs
 |[],_,h=>by simpa only[DenKV]using h
 |(k,d)::r,_,h=>by
  simp only[DenKV]at h⊢;let⟨u,v,vs,e,a,f,g⟩:=h;exact⟨u,v,vs,e,Den.mono p a,Den.mono p f,DenKV.mono p g⟩
theorem DenKK.mono(p:Pers H H'):∀{ds:List (dL×dL)}{xs:List (Key×V)},DenKK K H ds xs->DenKK K H' ds xs
 |[],_,h=>by simpa only[DenKK]using h
 |(k,d)::r,_,h=>by
  simp only[DenKK]at h⊢;let⟨u,v,vs,e,a,f,g⟩:=h;exact⟨u,v,vs,e,a,Den.mono p f,DenKK.mono p g⟩
theorem DenXF.mono(p:Pers H H'):∀{ds:List (dL×dL)}{xs:List (Str×V)},DenXF K H ds xs->DenXF K H' ds xs
 |[],_,h=>by simpa only[DenXF]using h
 |(.str f,d)::r,_,h=>by
  simp only[DenXF]at h⊢;let⟨v,vs,e,a,g⟩:=h;exact⟨v,vs,e,Den.mono p a,DenXF.mono p g⟩
 |(.none,d)::r,_,h=>by simp only[DenXF]at h⊢;exact DenXF.mono p h
 |(.bool _,d)::r,_,h=>by simp only[DenXF]at h⊢;exact DenXF.mono p h
 |(.int _,d)::r,_,h=>by simp only[DenXF]at h⊢;exact DenXF.mono p h
 |(.list _,d)::r,_,h=>by simp only[DenXF]at h⊢;exact DenXF.mono p h
 |(.tuple _,d)::r,_,h=>by simp only[DenXF]at h⊢;exact DenXF.mono p h
 |(.dict _,d)::r,_,h=>by simp only[DenXF]at h⊢;exact DenXF.mono p h
end
def DenAll.nil:DenAll K H [] []:=rfl
def DenAll.cons{d:dL}(h:Den K H d v)(t:DenAll K H ds vs):DenAll K H (d::ds) (v::vs):=by
   exact⟨v,vs,rfl,h,t⟩
theorem DenAll.paired:∀{ds:List dL}{xs:List V},DenAll K H ds xs->abJ (Den K H) ds xs
 |[],_,h=>by simp[DenAll]at h;subst h;exact .nil
 |d::ds,_,h=>by
  let⟨v,vs,e,f,g⟩:=h;subst e;exact .cons f g.paired
theorem fO:∀{ds:List dL}{xs:List V},abJ (Den K H) ds xs->DenAll K H ds xs
 |_,_,.nil=>DenAll.nil
 |_,_,.cons f t=>DenAll.cons f (fO t)
def DenAll.length(h:DenAll K H ds xs):ds.length=xs.length:=h.paired.length
theorem Paired.get'{d β:Type}{F:d->β->Prop}:∀{l:List d}{c:List β}{i:Nat}{a:d},abJ F l c->l[i]?=some a->∃b,c[i]?=some b/\F a b
 |_,_,_,_,.nil,e=>by simp at e
 |_,_,0,_,.cons f _,e=>by simp at e;subst e;exact⟨_,rfl,f⟩
 |_,_,i+1,a,.cons _ t,e=>by
  let⟨b,g,h⟩:=Paired.get' t ‹_›;exact⟨b,by simpa using g,h⟩
def DenAll.get{d:dL}(h:DenAll K H ds xs)(e:ds[i]?=some d):∃v,xs[i]?=some v/\Den K H d v:=Paired.get' h.paired e
theorem Paired.get2{d β:Type}{F:d->β->Prop}:∀{l:List d}{c:List β}{i:Nat}{b:β},abJ F l c->c[i]?=some b->∃a,l[i]?=some a/\F a b
 |_,_,_,_,.nil,e=>by simp at e
 |_,_,0,_,.cons f _,e=>by simp at e;subst e;exact⟨_,rfl,f⟩
 |_,_,i+1,b,.cons _ t,e=>by
  let⟨a,g,h⟩:=Paired.get2 t ‹_›;exact⟨a,by simpa using g,h⟩
def DenAll.get2(h:DenAll K H ds xs)(e:xs[i]?=some v):∃d,ds[i]?=some d/\Den K H d v:=Paired.get2 h.paired e
theorem Paired.append'{e β:Type}{F:e->β->Prop}:∀{a b:List e}{c d:List β},abJ F a c->abJ F b d->abJ F (a++b) (c++d)
 |_,_,_,_,.nil,s=>s
 |_,_,_,_,.cons r t,s=>.cons r (Paired.append' t s)
def DenAll.append{es:List dL}{ys:List V}(h:DenAll K H ds xs)(g:DenAll K H es ys):DenAll K H (ds++es) (xs++ys):=fO (Paired.append' h.paired g.paired)
theorem Paired.set'{d β:Type}{F:d->β->Prop}{a:d}{b:β}(f:F a b):∀{l:List d}{c:List β} (i:Nat),abJ F l c->abJ F (l.set i a) (c.set i b)
 |_,_,_,.nil=>.nil
 |_,_,0,.cons _ t=>.cons f t
 |_,_,i+1,.cons q t=>.cons q (Paired.set' f i t)
def DenAll.set{d:dL}(h:DenAll K H ds xs)(f:Den K H d v)(i:Nat):DenAll K H (ds.set i d) (xs.set i v):=fO (Paired.set' f i h.paired)
theorem Paired.take'{b β:Type}{F:b->β->Prop}:∀{a:List b}{l:List β} (n:Nat),abJ F a l->abJ F (a.take n) (l.take n)
 |_,_,0,_=>.nil
 |_,_,_+1,.nil=>.nil
 |_,_,n+1,.cons r t=>.cons r (Paired.take' n t)
theorem Paired.drop'{b β:Type}{F:b->β->Prop}:∀{a:List b}{l:List β} (n:Nat),abJ F a l->abJ F (a.drop n) (l.drop n)
 |_,_,0,h=>h
 |_,_,_+1,.nil=>.nil
 |_,_,n+1,.cons _ t=>Paired.drop' n t
def DenAll.take(h:DenAll K H ds xs)(n:Nat):DenAll K H (ds.take n) (xs.take n):=fO (Paired.take' n h.paired)
def DenAll.drop(h:DenAll K H ds xs)(n:Nat):DenAll K H (ds.drop n) (xs.drop n):=fO (Paired.drop' n h.paired)
theorem DenAll.ints:∀ns:List Int,DenAll K H (ns.map .int) (ns.map V.int)
 |[]=>DenAll.nil
 |n::ns=>DenAll.cons rfl (DenAll.ints ns)
end
noncomputable def fzOf:List (dL×dL)->Option dL
 |[(.none,.list ds)]=>some (.list ds)
 |[(.none,.dict es)]=>some (.dict es)
 |_=>none
mutual
noncomputable def TAt(K:Kd)(H:Hp)(τ:List (List Nat×Addr))(p:List Nat):dL->V->Prop
 | .list ts,v=>∃a f,τ.lookup p=some a/\v = .ref a/\H a=some (.lst f)/\TAtL K H τ p 0 ts f
 | .dict kvs,v=>(∃d,fzOf kvs=some d/\Den K H d v) \/
   (fzOf kvs=none/\excC kvs=none/\∃a e,τ.lookup p=some a/\v = .ref a/\H a=some (dX a e)/\wJ kvs/\TAtD K H τ p 0 kvs e) \/
   (fzOf kvs=none/\excC kvs=none/\∃a e,τ.lookup p=some a/\v = .ref a/\H a=some (.dK e)/\TAtK K H τ p 0 kvs e) \/
   ∃c a dx C f,excC kvs=some c/\τ.lookup p=some a/\v = .ref a/\H a=some (.ins C dx f)/\ClsN K c C/\TAtF K H τ p 0 kvs f
 | .none,v=>Den K H .none v
 | .bool b,v=>Den K H (.bool b) v
 | .int i,v=>Den K H (.int i) v
 | .str x,v=>Den K H (.str x) v
 | .tuple ds,v=>Den K H (.tuple ds) v
noncomputable def TAtL(K:Kd)(H:Hp)(τ:List (List Nat×Addr))(p:List Nat)(i:Nat):List dL->List V->Prop
 |[],xs=>xs=[]
 |t::ts,xs=>∃v vs,xs=v::vs/\TAt K H τ (p++[i]) t v/\TAtL K H τ p (i+1) ts vs
noncomputable def TAtD(K:Kd)(H:Hp)(τ:List (List Nat×Addr))(p:List Nat)(i:Nat):List (dL×dL)->List (Int×V×V)->Prop
 |[],es=>es=[]
 |(k,t)::r,es=>∃u v vs,es=(d5 K.w k,u,v)::vs/\Den K H k u/\TAt K H τ (p++[i]) t v/\TAtD K H τ p (i+1) r vs
noncomputable def TAtK(K:Kd)(H:Hp)(τ:List (List Nat×Addr))(p:List Nat)(i:Nat):List (dL×dL)->List (Key×V)->Prop
 |[],es=>es=[]
 |(k,t)::r,es=>∃a v vs,es=(a,v)::vs/\(k=keyD a/\∀x∈vs,x.1≠a)/\TAt K H τ (p++[i]) t v/\TAtK K H τ p (i+1) r vs
noncomputable def TAtF(K:Kd)(H:Hp)(τ:List (List Nat×Addr))(p:List Nat)(i:Nat):List (dL×dL)->List (Str×V)->Prop
 |[],xs=>xs=[]
 |(k,t)::r,xs=>match k with
  | .str f=>∃v vs,xs=(f,v)::vs/\TAt K H τ (p++[i]) t v/\TAtF K H τ p (i+1) r vs
  | .none=>TAtF K H τ p (i+1) r xs
  |_=>False
end
theorem bm{β b:Type}[BEq β][LawfulBEq β]{l:List (β×b)}{p:β}{a:b}(h:l.lookup p=some a):a∈l.map (·.2):=by
 induction l with
 |nil=>cases h
 |cons x l i=>
  grind
section
variable {K:Kd}{H H':Hp}{τ:List (List Nat×Addr)}
mutual
theorem TAt.mono(f:Pers H H')(e:∀a∈τ.map (·.2),H' a=H a):∀{d:dL}{p:List Nat}{v:V},TAt K H τ p d v->TAt K H' τ p d v
 | .none,_,_,h=>by simp only[TAt]at h⊢;exact h.mono f
 | .bool _,_,_,h=>by simp only[TAt]at h⊢;exact h.mono f
 | .int _,_,_,h=>by simp only[TAt]at h⊢;exact h.mono f
 | .str _,_,_,h=>by simp only[TAt]at h⊢;exact h.mono f
 | .tuple _,_,_,h=>by simp only[TAt]at h⊢;exact h.mono f
 | .list ts,_,_,h=>by
  simp only[TAt]at h⊢;let⟨a,x,b,i,j,g⟩:=h;exact⟨a,x,b,i,(e a (bm b)).trans j,TAtL.mono f e g⟩
 | .dict kvs,_,_,h=>by
  simp only[TAt]at h⊢;rcases h with⟨d,b,h⟩|⟨z,m,a,l,b,i,j,k,g⟩|⟨z,m,a,l,b,i,j,g⟩|⟨c,a,dx,C,x,n,b,i,j,k,g⟩
  .exact .inl ⟨d,b,h.mono f⟩
  .exact .inr (.inl ⟨z,m,a,l,b,i,(e a (bm b)).trans j,k,TAtD.mono f e g⟩)
  .exact .inr (.inr (.inl ⟨z,m,a,l,b,i,(e a (bm b)).trans j,TAtK.mono f e g⟩))
  .exact .inr (.inr <| .inr ⟨c,a,dx,C,x,n,b,i,(e a (bm b)).trans j,k,TAtF.mono f e g⟩)
theorem TAtL.mono(b:Pers H H')(e:∀a∈τ.map (·.2),H' a=H a):∀{ds:List dL}{p:List Nat}{i:Nat}{xs:List V},TAtL K H τ p i ds xs->TAtL K H' τ p i ds xs
 |[],_,_,_,h=>by simpa only[TAtL]using h
 |t::ts,_,_,_,h=>by
  simp only[TAtL]at h⊢;let⟨v,vs,d,g,c⟩:=h;exact⟨v,vs,d,TAt.mono b e g,TAtL.mono b e c⟩
theorem TAtD.mono(b:Pers H H')(e:∀a∈τ.map (·.2),H' a=H a):∀{ds:List (dL×dL)}{p:List Nat}{i:Nat}{xs:List (Int×V×V)},TAtD K H τ p i ds xs->TAtD K H' τ p i ds xs
 |[],_,_,_,h=>by simpa only[TAtD]using h
 |(k,t)::r,_,_,_,h=>by
  simp only[TAtD]at h⊢;let⟨u,v,vs,f,d,g,c⟩:=h;exact⟨u,v,vs,f,d.mono b,TAt.mono b e g,TAtD.mono b e c⟩
theorem TAtK.mono(b:Pers H H')(e:∀a∈τ.map (·.2),H' a=H a):∀{ds:List (dL×dL)}{p:List Nat}{i:Nat}{xs:List (Key×V)},TAtK K H τ p i ds xs->TAtK K H' τ p i ds xs
 |[],_,_,_,h=>by simpa only[TAtK]using h
 |(k,t)::r,_,_,_,h=>by
  simp only[TAtK]at h⊢;let⟨u,v,vs,f,d,g,c⟩:=h;exact⟨u,v,vs,f,d,TAt.mono b e g,TAtK.mono b e c⟩
theorem TAtF.mono(b:Pers H H')(e:∀a∈τ.map (·.2),H' a=H a):∀{ds:List (dL×dL)}{p:List Nat}{i:Nat}{xs:List (Str×V)},TAtF K H τ p i ds xs->TAtF K H' τ p i ds xs
 |[],_,_,_,h=>by simpa only[TAtF]using h
 |(.str f,t)::r,_,_,_,h=>by
  simp only[TAtF]at h⊢;let⟨v,vs,j,g,c⟩:=h;exact⟨v,vs,j,TAt.mono b e g,TAtF.mono b e c⟩
 |(.none,d)::r,_,_,_,h=>by simp only[TAtF]at h⊢;exact TAtF.mono b e h
 |(.bool _,d)::r,_,_,_,h=>by simp only[TAtF]at h
 |(.int _,d)::r,_,_,_,h=>by simp only[TAtF]at h
 |(.list _,d)::r,_,_,_,h=>by simp only[TAtF]at h
 |(.tuple _,d)::r,_,_,_,h=>by simp only[TAtF]at h
 |(.dict _,d)::r,_,_,_,h=>by simp only[TAtF]at h
end
end
noncomputable abbrev Cx.kd(X:Cx):Kd:=⟨X.K,X.w⟩
section
variable {X:Cx}{pins:List (Addr×Obj)}{σ:St}{H:Hp}{s:mT}
mutual
theorem Den.reads(I:Inv X pins σ H s):∀{d:dL}{v:V}{u:lD},d.hasDict=false->Den X.kd H d v->RelV v u->∃as,Reads s.heap u d as
 | .none,v,u,_,h,r=>by simp only[Den]at h;subst h;cases r;exact⟨_,.none⟩
 | .bool b,v,u,nd,h,r=>by simp only[Den]at h;subst h;cases r;exact⟨_,.bool b⟩
 | .int i,v,u,nd,h,r=>by simp only[Den]at h;subst h;let⟨t,rfl⟩:=r;exact⟨_,.int i t⟩
 | .str x,v,u,nd,h,r=>by simp only[Den]at h;subst h;let⟨t,rfl⟩:=r;exact⟨_,.str x t⟩
 | .list ds,v,u,nd,h,r=>by
  simp only[Den]at h;let⟨a,p,rfl,f,g⟩:=h;cases r;let⟨m,j,⟨o,n,e,c,_,k⟩,_⟩:=I.list f.sq;let⟨as,l⟩:=DenAll.reads I (by simpa only[acO]using nd) g j;exact⟨_,.list e c k (by simpa using l)⟩
 | .tuple ds,v,u,nd,h,r=>by
  simp only[Den]at h;let⟨a,p,rfl,f,g⟩:=h;cases r;let⟨m,j,⟨o,e,c,n,k⟩,_⟩:=I.tuple f;let⟨as,l⟩:=DenAll.reads I (by simpa only[acO]using nd) g j;exact⟨_,.tuple e c k (by simpa using l)⟩
 | .dict _,v,u,nd,h,r=>by simp[acO]at nd
theorem DenAll.reads(I:Inv X pins σ H s):∀{ds:List dL}{xs:List V}{u:List lD},acx ds=false->DenAll X.kd H ds xs->Vals xs u->∃as,adW s.heap u ds as
 |[],xs,u,_,h,r=>by simp only[DenAll]at h;subst h;cases r;exact⟨_,.nil⟩
 | d::ds,xs,u,nd,h,r=>by
  simp only[acx,agM]at nd;simp only[DenAll]at h;let⟨v,vs,rfl,f,g⟩:=h
  cases r with
  |cons r1 a=>
   let⟨a1,c⟩:=Den.reads I nd.1 f r1;let⟨a2,b⟩:=DenAll.reads I nd.2 g a;exact⟨_,.cons c b⟩
end
theorem Inv.freeze(I:Inv X pins σ H s)(h:H a=some (.lst xs)):∃o,Inv X pins σ (upd H a (.frz o (.lst xs))) s:=by
 let⟨f,i,n,r,e⟩:=I.hok a _ h;refine⟨{cls:=.type "list",data:=.seq i.toArray n},I.un (h':=s.heap) (t':=s.toks) ⟨λb d q _ _ _=>q,λb d q _ _ _=>⟨d.slots,q⟩,λb d q z _=>?_,λb d q _=>⟨d,q⟩,λb y q=>?_,λb d u q=>?_,λb p q=>⟨#[],?_⟩⟩ λb d q=>?_⟩
 .rw[au (abf (bf h z))];exact z
 .rw[au (sU q h (by simp))];exact q
 .rw[au (sU q h (by intro z;cases z))];exact q
 .rw[au (sU q h (by simp)),q];simp
 .by_cases hb:b=a
  .subst hb;rw[ay]at q;cases q;exact⟨e,f,i,n,r,e⟩
  .rw[au hb]at q;exact(I.hok b d q).stay (λ_ _ _ z=>z) (λc z=>by rw[au (sU z h (by simp))];exact z) λc y z=>by rw[au (sU z h (by simp))];exact z
end
noncomputable def D6:Expr->Bool
 | .Starred ..=>true
 |_=>false
def ba{es:List Expr}(h:D6 e=false):aac (e::es) env=(false,eval e env)::aac es env:=by
 cases e<;>first|rfl|cases h
def cy(h:D6 e=false):aac [e] env=[(false,eval e env)]:=ba h
inductive R where
 |imm (d:dL)|obj (k:Nat)|new (ds:List dL)|at (k:Nat) (p:List Nat)|newT (t:dL)
structure MSt where
 vs:List (Option R)
 os:List (List dL)
 np:Nat
structure Kx extends Kd where
 eb:EB
noncomputable instance:Coe Kx Kd:=⟨Kx.toKd⟩
noncomputable abbrev Cx.kx(X:Cx):Kx:=⟨X.kd,X.eb⟩
noncomputable abbrev Al:=List Ao
noncomputable def Ao.ads:Ao->List Addr
 | .L a=>[a]
 | .T t=>t.map (·.2)
noncomputable def ads(a:Al):List Addr:=a.flatMap Ao.ads
def i5(a β:Al):ads (a++β)=ads a++ads β:=by unfold ads;rw[adO]
noncomputable def Mu:HO->Bool
 | .tup _=>false
 | .frz _ _=>false
 |_=>true
noncomputable def OwnAt(K:Kd)(H:Hp):Ao->List dL->Prop
 | .L a,ds=>∃x,H a=some (.lst x)/\DenAll K H ds x
 | .T τ,ds=>(∃t v,ds=[t]/\TAt K H τ [] t v/\∃a,τ.lookup []=some a/\v = .ref a)/\∀a∈τ.map (·.2),∃o,H a=some o/\Mu o=true
theorem OwnAt.mem(h:OwnAt K H ao ds)(ha:a∈ao.ads):∃o,H a=some o/\Mu o=true:=by
 cases ao with
 |L b=>cases aab.mp ha;let⟨x,e,_⟩:=h;exact⟨_,e,rfl⟩
 |T c=>exact h.2 a ha
theorem OwnAt.mono(h:OwnAt K H ao ds)(p:Pers H H')(e:∀a∈ao.ads,H' a=H a):OwnAt K H' ao ds:=by
 cases ao with
 |L b=>
  let⟨x,q,g⟩:=h;exact⟨x,(e b (aab.mpr rfl)).trans q,g.mono p⟩
 |T d=>
  let⟨⟨t,v,c,g,r⟩,m⟩:=h;exact⟨⟨t,v,c,g.mono p e,r⟩,λa ha=>by rw[e a ha];exact m a ha⟩
noncomputable def RelS(K:Kd)(c:Al)(H:Hp):R->V->Prop
 | .imm d,v=>Den K H d v
 | .obj k,v=>∃a,c[k]?=some (.L a)/\v = .ref a
 | .at k p,v=>∃b a,c[k]?=some (.T b)/\b.lookup p=some a/\v = .ref a
 | .new _,_=>False
 | .newT _,_=>False
noncomputable def RelR(K:Kd)(f:Al)(e H:Hp):R->V->Prop
 | .imm d,v=>Den K H d v
 | .obj k,v=>∃a,f[k]?=some (.L a)/\v = .ref a
 | .at k p,v=>∃c a,f[k]?=some (.T c)/\c.lookup p=some a/\v = .ref a
 | .new ds,v=>∃a x,v = .ref a/\e a=none/\H a=some (.lst x)/\DenAll K H ds x
 | .newT t,v=>∃c a,v = .ref a/\c.lookup []=some a/\(c.map (·.2)).Nodup/\(∀b∈c.map (·.2),e b=none)/\OwnAt K H (.T c) [t]
noncomputable def Frm(c:Al)(H a:Hp):Prop:=∀b o,H b=some o->b∉ads c->a b=some o
theorem Frm.refl(a:Al)(H:Hp):Frm a H H:=λ_ _ e _=>e
theorem Frm.trans(a:Frm α H H1)(b:Frm α H1 H2):Frm α H H2:=λc o e n=>b c o (a c o e n) n
structure Ext(np:Nat)(α:Al)(H:Hp)(α':Al)(H':Hp):Prop where
 pre:α'.take np=α.take np
 frm:Frm α H H'
 new:∀a∈ads α',a∈ads α\/H a=none
 old:∀a∈ads α,∃o,H' a=some o
theorem Ext.trans{np:Nat}{c:Al}(x:Ext np α H α1 H1)(y:Ext np α1 H1 c H2):Ext np α H c H2:=by
 have out:∀b o,H b=some o->b∉ads α->b∉ads α1:=λb o e n hb=>by
  rcases x.new b hb with z|z
  .exact n z
  .grind
 refine⟨y.pre.trans x.pre,λb o e n=>y.frm b o (x.frm b o e n) (out b o e n),λa ha=>?_,λa ha=>?_⟩
 .rcases y.new a ha with z|z
  .exact x.new a z
  .cases q:H a with
   |none=>exact .inr rfl
   | some o=>
    by_cases h:a∈ads α
    .exact .inl h
    .have:=x.frm a o q h
     grind
 .obtain⟨o,e⟩:=x.old a ha
  by_cases h:a∈ads α1
  .exact y.old a h
  .exact⟨o,y.frm a o e h⟩
theorem Ext.nil{np:Nat}(x:Ext np α H α1 H1)(h:H1 a=none):H a=none:=by
 cases q:H a with
 |none=>rfl
 | some o=>
  by_cases b:a∈ads α
  .obtain⟨o',e⟩:=x.old a b
   grind
  .have:=x.frm a o q b
   grind
def Ext.less{np n1:Nat}(x:Ext n1 α H α' H')(h:np≤n1):Ext np α H α' H':=by
 refine⟨?_,x.frm,x.new,x.old⟩;have:=congrArg (ag3 np) x.pre;rw[List.take_take,List.take_take,Nat.min_eq_left h]at this;omega
structure Rel(K:Kx)(α:Al)(m:MSt)(σ:St)(H:Hp):Prop where
 nd:(ads α).Nodup
 len:α.length=m.os.length
 own:∀(k:Nat) (ao:Ao) (ds:List dL),α[k]?=some ao->m.os[k]?=some ds->OwnAt K H ao ds
 vlen:σ.length=m.vs.length
 var:∀(i:Nat) (r:R),m.vs[i]?=some (some r)->∃v,σ[i]?=some (some v)/\RelS K α H r v
 npl:m.np≤α.length
 ebl:K.eb.np≤m.np
 ebx:Ext K.eb.np K.eb.be K.eb.H α H
section
variable {K:Kx}{α:Al}{m m':MSt}{σ:St}{H H0 H1 H':Hp}{r:R}{v:V}
theorem RelS.rr{K:Kd}(h:RelS K α H r v):RelR K α Hb H r v:=by
 cases r with
 |imm d=>exact h
 |obj k=>exact h
 | «at» k p=>exact h
 |new ds=>exact h.elim
 |newT t=>exact h.elim
theorem Rel.mem(R:Rel K α m σ H)(ha:a∈ads α):∃o,H a=some o/\Mu o=true:=by
 let⟨c,b,f⟩:=abB.mp ha;let⟨k,d,e⟩:=aa0.mp b;have b:α[k]?=some c:=by rw[iO d,e]
 have h:m.os[k]?=some (m.os[k]'(by rw[<-R.len];exact d)):=iO _;exact(R.own k c _ b h).mem f
theorem Rel.out(R:Rel K α m σ H)(h:H a=none):a∉ads α:=λha=>by
 obtain _:=R.mem ha
 grind
theorem Rel.pers(R:Rel K α m σ H)(F:Frm α H H'):Pers H H' where
 tups:=λb x e=>F b _ e λha=>by let⟨y,q,z⟩:=R.mem ha;rw[e]at q;cases q;cases z
 frzs:=λb o u e=>F b _ e λha=>by let⟨y,q,z⟩:=R.mem ha;rw[e]at q;cases q;cases z
theorem Ext.of{np:Nat}(R:Rel K α m σ H')(F:Frm α H H'):Ext np α H α H':=
 ⟨rfl,F,λ_ h=>.inl h,λa ha=>let ⟨xs,q,_⟩:=R.mem ha;⟨_,q⟩⟩
theorem OwnAt.keep{K:Kd}(h:OwnAt K H1 ao ds)(p:Pers H1 H)(F:Frm α H1 H)(n:∀b∈ao.ads,b∉ads α):OwnAt K H ao ds:=
 h.mono p λa ha=>by
  let⟨o,e,_⟩:=h.mem ha;rw[e];exact F a o e (n a ha)
theorem RelR.keep(c:Rel K α m σ H0)(R:Rel K α m' σ H1)(F:Frm α H1 H)(h:RelR K α H0 H1 r v):RelR K α H0 H r v:=by
 cases r with
 |imm d=>exact Den.mono (R.pers F) h
 |obj k=>exact h
 | «at» k p=>exact h
 |new ds=>
  let⟨a,x,e,n,q,g⟩:=h;exact⟨a,x,e,n,F a _ q (c.out n),g.mono (R.pers F)⟩
 |newT t=>
  let⟨f,a,e,i,nd,n,g⟩:=h;exact⟨f,a,e,i,nd,n,g.keep (R.pers F) F λb hb=>c.out (n b hb)⟩
theorem RelR.base(R:Rel K α m σ H)(F:Frm α H0 H)(h:RelR K α H H' r v):RelR K α H0 H' r v:=by
 have old:∀a,H a=none->H0 a=none:=λa n=>by
  cases z:H0 a with
  |none=>rfl
  |some o=>
   have:=F a o z (R.out n)
   grind
 cases r with
 |imm d=>exact h
 |obj k=>exact h
 | «at» k p=>exact h
 |new ds=>
  let⟨a,x,e,n,q,g⟩:=h;exact⟨a,x,e,old a n,q,g⟩
 |newT t=>
  let⟨c,a,e,f,nd,n,g⟩:=h;exact⟨c,a,e,f,nd,λb hb=>old b (n b hb),g⟩
noncomputable def chD:dL->Nat->Option dL
 | .list ts,i=>ts[i]?
 | .dict kvs,i=>match kvs[i]? with
  |some (.none,_)=>none
  |some (_,t)=>some t
  |none=>none
 |_,_=>none
noncomputable def getT:dL->List Nat->Option dL
 |t,[]=>some t
 |t,i::p=>(chD t i).bind λa=>getT a p
noncomputable def zn:dL->Option dL
 | .list _=>none
 | .dict k=>fzOf k
 |d=>some d
noncomputable def iZ:List dL->Option (List dL)
 |[]=>some []
 |t::ts=>match zn t,iZ ts with|some d,some ds=>some (d::ds)|_,_=>none
noncomputable def ndL(m:MSt)(k:Nat)(p:List Nat):Option (List dL):=match m.os[k]? with
 |some [t]=>match getT t p with
  |some (.list ts)=>iZ ts
  |_=>none
 |_=>none
theorem jD{K:Kd}{p:List Nat}{t d:dL}(h:TAt K H τ p t v)(e:zn t=some d):Den K H d v:=by
 cases t with
 |list ts=>cases e
 | dict k=>
  have b:fzOf k=some d:=e;rcases h with _|⟨z,_⟩|⟨z,_⟩|⟨c,a,dx,C,x,f,_⟩
  .simp_all
  .simp_all
  .rw[b]at z;cases z
  .exfalso;unfold fzOf at b;unfold excC at f
   split at b<;>contradiction
 |none=>cases e;simpa only[TAt]using h
 |bool _=>cases e;simpa only[TAt]using h
 |int _=>cases e;simpa only[TAt]using h
 |str _=>cases e;simpa only[TAt]using h
 |tuple _=>cases e;simpa only[TAt]using h
theorem lZ{K:Kd}{τ:List (List Nat×Addr)}{p:List Nat}:∀{ts ds:List dL}{i:Nat}{xs:List V},TAtL K H τ p i ts xs->iZ ts=some ds->DenAll K H ds xs
 |[],ds,i,xs,h,e=>by
  cases e;subst h;rfl
 | t::ts,ds,i,xs,h,e=>by
  let⟨v,vs,rfl,b,g⟩:=h;simp[iZ]at e
  cases q1:zn t with
  |none=>rw[q1]at e;cases e
  | some d=>
   cases q2:iZ ts with
   |none=>rw[q1,q2]at e;cases e
   |some a=>
    rw[q1,q2]at e;cases e;exact DenAll.cons (jD b q1) (lZ g q2)
theorem TAtL.get{K:Kd}{τ:List (List Nat×Addr)}{p:List Nat}:∀{ts:List dL}{i j:Nat}{xs:List V}{t:dL},TAtL K H τ p i ts xs->ts[j]?=some t->∃v,xs[j]?=some v/\TAt K H τ (p++[i+j]) t v
 |[],_,_,_,_,_,e=>by simp at e
 |t::ts,i,0,xs,t',h,e=>by
  let⟨v,vs,rfl,g,_⟩:=h;simp at e;subst e;exact⟨v,rfl,g⟩
 |t::ts,i,j+1,xs,t',h,e=>by
  let⟨v,vs,rfl,_,d⟩:=h;let⟨a,c,b⟩:=TAtL.get d ‹_›;exact⟨a,by simpa using c,by rw[show i+(j+1)=i+1+j by omega];exact b⟩
theorem TAtD.get{K:Kd}{τ:List (List Nat×Addr)}{p:List Nat}:∀{ts:List (dL×dL)}{i j:Nat}{xs:List (Int×V×V)}{k t:dL},TAtD K H τ p i ts xs->ts[j]?=some (k,t)->∃u v,xs[j]?=some (d5 K.w k,u,v)/\Den K H k u/\TAt K H τ (p++[i+j]) t v
 |[],_,_,_,_,_,_,e=>by simp at e
 |(k,t)::ts,i,0,xs,k',t',h,e=>by
  let⟨u,v,vs,rfl,d,g,_⟩:=h;simp at e;let⟨rfl,rfl⟩:=e;exact⟨u,v,rfl,d,g⟩
 |(k,t)::ts,i,j+1,xs,k',t',h,e=>by
  let⟨u,v,vs,rfl,_,_,n⟩:=h;let⟨a,b,f,c,l⟩:=TAtD.get n ‹_›;exact⟨a,b,by simpa using f,c,by rw[show i+(j+1)=i+1+j by omega];exact l⟩
theorem TAtK.get{K:Kd}{τ:List (List Nat×Addr)}{p:List Nat}:∀{ts:List (dL×dL)}{i j:Nat}{xs:List (Key×V)}{k t:dL},TAtK K H τ p i ts xs->ts[j]?=some (k,t)->∃v,TAt K H τ (p++[i+j]) t v
 |[],_,_,_,_,_,_,e=>by simp at e
 |(k,t)::ts,i,0,xs,k',t',h,e=>by
  let⟨u,v,vs,rfl,d,a,_⟩:=h;simp at e;let⟨rfl,rfl⟩:=e;exact⟨v,a⟩
 |(k,t)::ts,i,j+1,xs,k',t',h,e=>by
  let⟨u,v,vs,rfl,_,_,g⟩:=h;let⟨b,c⟩:=TAtK.get g ‹_›;exact⟨b,by rw[show i+_=i+1+j by omega];exact c⟩
theorem TAtF.get{K:Kd}{τ:List (List Nat×Addr)}{p:List Nat}:∀{ts:List (dL×dL)}{i j:Nat}{xs:List (Str×V)}{f:Str}{t:dL},TAtF K H τ p i ts xs->ts[j]?=some (.str f,t)->∃v,(f,v)∈xs/\TAt K H τ (p++[i+j]) t v
 |[],_,_,_,_,_,_,e=>by simp at e
 |(k,t)::ts,i,0,xs,f,t',h,e=>by
  simp_all
  let⟨v,vs,rfl,d,_⟩:=h;exact⟨v,Io,d⟩
 | (k,t)::ts,i,j+1,xs,f,t',h,e=>by
  have go:∀{y:List (Str×V)},TAtF K H τ p (i+1) ts y->∃v,(f,v)∈y/\TAt K H τ (p++[i+(j+1)]) t' v:=λ{y} g=>by
   let⟨a,c,b⟩:=TAtF.get (j:=j) g (by simpa using e);exact⟨a,c,by rw[show i+(j+1)=i+1+j by omega];exact b⟩
  cases k with
  |str l=>
   simp only[TAtF]at h;let⟨v,vs,rfl,_,g⟩:=h;let⟨a,c,b⟩:=go g;exact⟨a,Ge _ c,b⟩
  |none=>simp only[TAtF]at h;exact go h
  |bool _=>simp only[TAtF]at h
  |int _=>simp only[TAtF]at h
  |list _=>simp only[TAtF]at h
  |tuple _=>simp only[TAtF]at h
  |dict _=>simp only[TAtF]at h
theorem TAtF.key{K:Kd}{p:List Nat}:∀{ts:List (dL×dL)}{i:Nat}{xs:List (Str×V)}{k t:dL},TAtF K H τ p i ts xs->(k,t)∈ts->k≠.none->∃f,k = .str f
 |[],_,_,_,_,_,e,_=>by simp at e
 | (k,t)::ts,i,xs,k',t',h,e,kn=>by
  cases k with
  |str a=>
   let⟨v,vs,rfl,_,g⟩:=h;rcases aam.mp e with e|e
   .grind
   .exact g.key e kn
  |none=>
   simp only[TAtF]at h;rcases aam.mp e with e|e
   .grind
   .exact h.key e kn
  |bool _=>simp[TAtF]at h
  |int _=>simp[TAtF]at h
  |list _=>simp only[TAtF]at h
  |tuple _=>simp only[TAtF]at h
  |dict _=>simp[TAtF]at h
theorem TAt.get{K:Kd}{τ:List (List Nat×Addr)}:∀{q p:List Nat}{t t':dL}{v:V},TAt K H τ p t v->getT t q=some t'->∃v',TAt K H τ (p++q) t' v'
 |[],p,t,t',v,h,e=>by cases e;exact⟨v,by rw[aa7];exact h⟩
 | i::q,p,t,t',v,h,e=>by
  simp only[getT]at e
  cases z:chD t i with
  |none=>rw[z]at e;cases e
  | some s=>
   rw[z]at e;have F:getT s q=some t':=e;have step:∃l,TAt K H τ (p++[i]) s l:=by
    cases t with
    |list ts=>
     simp only[TAt]at h;let⟨a,A,_,_,_,g⟩:=h;let⟨l,_,b⟩:=g.get (j:=i) z;exact⟨l,by rw[abK]at b;exact b⟩
    | dict w=>
     simp only[chD]at z
     cases zi:w[i]? with
     |none=>rw[zi]at z;cases z
     | some E=>
      let⟨k,G⟩:=E;rw[zi]at z;have n:k≠.none:=λq=>by subst q;cases z
      have B:G=s:=by
       split at z<;>simp_all
      subst B;simp only[TAt]at h;rcases h with⟨d,o,_⟩|⟨_,_,a,y,_,_,_,_,g⟩|⟨_,_,a,y,_,_,_,g⟩|⟨c,a,dx,C,A,I,_,_,_,_,g⟩
      .exfalso;unfold fzOf at o
       split at o
       .cases i<;>simp at zi;exact n zi.1.symm
       .cases i<;>simp at zi;exact n zi.1.symm
       .cases o
      .obtain⟨u,l,_,_,b⟩:=g.get (j:=i) zi;exact⟨l,by rw[abK]at b;exact b⟩
      .obtain⟨l,b⟩:=g.get (j:=i) zi;exact⟨l,by rw[abK]at b;exact b⟩
      .obtain⟨f,rfl⟩:=g.key (oR zi) n;let⟨l,_,b⟩:=g.get (j:=i) zi;exact⟨l,by rw[abK]at b;exact b⟩
    |none=>cases z
    |bool _=>cases z
    |int _=>cases z
    |str _=>cases z
    |tuple _=>cases z
   let⟨l,D⟩:=step;let⟨v',x⟩:=TAt.get D F;exact⟨v',by rw[abg]at x;exact x⟩
noncomputable def lsOf(m:MSt):R->Option (List dL)
 | .imm (.list ds)=>some ds
 | .obj k=>m.os[k]?
 | .new ds=>some ds
 | .at k p=>ndL m k p
 |_=>none
mutual
noncomputable def eraT:dL->Option dL
 | .list ts=>(eraL ts).map .list
 | .dict k=>fzOf k
 | .none=>some .none
 | .bool b=>some (.bool b)
 | .int i=>some (.int i)
 | .str x=>some (.str x)
 | .tuple ds=>some (.tuple ds)
noncomputable def eraL:List dL->Option (List dL)
 |[]=>some []
 |t::ts=>match eraT t,eraL ts with|some d,some ds=>some (d::ds)|_,_=>none
end
noncomputable def ndT(m:MSt)(k:Nat)(p:List Nat):Option dL:=match m.os[k]? with
 |some [t]=>getT t p
 |_=>none
noncomputable def asD(m:MSt):R->Option dL
 | .imm d=>some d
 | .obj k=>(m.os[k]?).map .list
 | .new ds=>some (.list ds)
 | .at k p=>match ndT m k p with
  |some (.list ts)=>(eraL ts).map .list
  |_=>none
 | .newT _=>none
theorem RelR.node(R:Rel K α m σ H){k:Nat}{p:List Nat}(h:RelR K α H0 H (.at k p) v){t:dL}(e:ndT m k p=some t):∃τ a v',α[k]?=some (.T τ)/\τ.lookup p=some a/\v = .ref a/\TAt K H τ p t v':=by
 let⟨τ,a,b,c,d⟩:=h;unfold ndT at e
 split at e
 .rename_i t0 e0;let⟨⟨j,l,f,g,_⟩,_⟩:=R.own k _ _ b e0;cases f;let⟨v',i⟩:=g.get e;exact⟨τ,a,v',b,c,d,by simpa using i⟩
 .cases e
theorem RelR.list(R:Rel K α m σ H)(h:RelR K α H0 H r v)(e:lsOf m r=some ds):∃a xs,v = .ref a/\SqL K H a xs/\DenAll K H ds xs:=by
 cases r with
 | imm d=>
  cases d with
  |list j=>
   cases e;have l:Den K H (.list ds) v:=h;let⟨a,xs,b,f,g⟩:=l;exact⟨a,xs,b,f.sq,g⟩
  |none=>cases e
  |bool _=>cases e
  |int _=>cases e
  |str _=>cases e
  |tuple _=>cases e
  |dict _=>cases e
 |obj k=>
  let⟨a,b,rfl⟩:=h;let⟨xs,q,g⟩:=R.own k _ ds b e;exact⟨a,xs,rfl,SqL.of q,g⟩
 |new j=>
  cases e;let⟨a,xs,b,n,q,g⟩:=h;exact⟨a,xs,b,SqL.of q,g⟩
 | «at» k p=>
  have c:ndL m k p=some ds:=e;let⟨ts,b,o⟩:∃ts,ndT m k p=some (.list ts)/\iZ ts=some ds:=by
   unfold ndL at c;unfold ndT
   split at c
   .split at c
    .rename_i h0 _ ts h1;exact⟨ts,h1,c⟩
    .cases c
   .cases c
  let⟨u,a,t,_,s,rfl,g⟩:=RelR.node R h b;simp only[TAt]at g;let⟨w,xs,i,_,q,g⟩:=g;rw[s]at i;cases i;exact⟨a,xs,rfl,SqL.of q,lZ g o⟩
 |newT _=>cases e
end
section
variable {X:Cx}{pins:List (Addr×Obj)}{σ:St}{H:Hp}{s:mT}{τ:List (List Nat×Addr)}
mutual
theorem TAt.reads(I:Inv X pins σ H s):∀{t d:dL}{p:List Nat}{v:V}{u:lD},eraT t=some d->d.hasDict=false->TAt X.kd H τ p t v->RelV v u->∃as,Reads s.heap u d as
 | .none,d,p,v,u,e,nd,h,r=>by simp only[eraT]at e;cases e;simp only[TAt]at h;exact h.reads I nd r
 | .bool b,d,p,v,u,e,nd,h,r=>by simp only[eraT]at e;cases e;simp only[TAt]at h;exact h.reads I nd r
 | .int i,d,p,v,u,e,nd,h,r=>by simp only[eraT]at e;cases e;simp only[TAt]at h;exact h.reads I nd r
 | .str x,d,p,v,u,e,nd,h,r=>by simp only[eraT]at e;cases e;simp only[TAt]at h;exact h.reads I nd r
 | .tuple ds,d,p,v,u,e,nd,h,r=>by simp only[eraT]at e;cases e;simp only[TAt]at h;exact h.reads I nd r
 | .dict kvs,d,p,v,u,e,nd,h,r=>by
  simp only[eraT]at e;exact(jD h (show zn (.dict kvs)=some d from e)).reads I nd r
 | .list ts,d,p,v,u,e,nd,h,r=>by
  simp only[eraT]at e
  cases q:eraL ts with
  |none=>rw[q]at e;cases e
  |some ds=>
   rw[q]at e;cases e;simp only[TAt]at h;let⟨a,w,_,rfl,f,g⟩:=h;cases r;let⟨k,m,⟨o,n,e,c,_,l⟩,_⟩:=I.list (SqL.of f);let⟨as,j⟩:=TAtL.reads I q (by simpa only[acO]using nd) g m;exact⟨_,.list e c l (by simpa using j)⟩
theorem TAtL.reads(I:Inv X pins σ H s):∀{ts ds:List dL}{p:List Nat}{i:Nat}{xs:List V}{u:List lD},eraL ts=some ds->acx ds=false->TAtL X.kd H τ p i ts xs->Vals xs u->∃as,adW s.heap u ds as
 |[],ds,p,i,xs,u,e,nd,h,r=>by
  simp only[eraL]at e;cases e;simp only[TAtL]at h;subst h
  cases r;exact⟨_,.nil⟩
 | t::ts,ds,p,i,xs,u,e,nd,h,r=>by
  simp only[eraL]at e
  cases q1:eraT t with
  |none=>rw[q1]at e;cases e
  | some d=>
   cases q2:eraL ts with
   |none=>rw[q1,q2]at e;cases e
   | some b=>
    rw[q1,q2]at e;cases e;simp only[acx,agM]at nd;simp only[TAtL]at h;let⟨v,vs,rfl,g,j⟩:=h
    cases r with
    |cons r1 a=>
     let⟨a1,f⟩:=TAt.reads I q1 nd.1 g r1;let⟨a2,c⟩:=TAtL.reads I q2 nd.2 j a;exact⟨_,.cons f c⟩
end
end
theorem RelR.reads{s:mT}{m:MSt}{u:lD}{d:dL}(I:Inv X pins σ H s)(R:Rel X.kx α m σ' H)(h:RelR X.kd α H0 H r v)(j:RelV v u)(e:asD m r=some d)(nd:d.hasDict=false):∃as,Reads s.heap u d as:=by
 have t:∀{ds:List dL},lsOf m r=some ds->acx ds=false->∃as,Reads s.heap u (.list ds) as:=λ{ds} e nd=>by
  let⟨a,x,rfl,f,g⟩:=RelR.list R h e;cases j;let⟨y,j,⟨o,n,e,c,_,A⟩,_⟩:=I.list f;let⟨as,w⟩:=DenAll.reads I nd g j;exact⟨_,.list e c A (by simpa using w)⟩
 cases r with
 |imm F=>cases e;exact Den.reads I nd h j
 | obj k=>
  cases q:m.os[k]? with
  |none=>simp[asD,q]at e
  |some ds=>
   simp[asD,q]at e;subst e;exact t q ‹_›
 |new ds=>cases e;exact t rfl (by simpa only[acO]using nd)
 | «at» k p=>
  let⟨ts,ds,q,i,rfl⟩:∃ts ds,ndT m k p=some (.list ts)/\eraL ts=some ds/\d = .list ds:=by
   unfold asD at e;simp only at e
   split at e
   .rename_i ts q
    cases i:eraL ts with
    |none=>rw[i]at e;cases e
    |some ds=>rw[i]at e;cases e;exact⟨ts,ds,q,i,rfl⟩
   .cases e
  let⟨D,a,C,_,z,rfl,g⟩:=RelR.node R h q;have l:=g;simp only[TAt]at l;let⟨E,x,b,B,_⟩:=l;rw[z]at b;cases b;subst B;exact TAt.reads I (by simp only[eraT,i,Option.map]) nd g j
 |newT _=>cases e
noncomputable abbrev WE:=MSt->(R->MSt->Prop)->Prop
noncomputable abbrev WT:=MSt->(Bool->MSt->Prop)->Prop
noncomputable abbrev WA:=MSt->(List R->MSt->Prop)->Prop
noncomputable def tM(K:Kx)(w:WE):TE:=λd H Q=>∃a m e,Rel K a m d H/\w m e/\∀r c v b,e r c->c.np=m.np->Rel K a c d b->RelR K a H b r v->Frm a H b->Q v b
noncomputable def tMT(K:Kx)(w:WT):TT:=λe H Q=>∃a m f,Rel K a m e H/\w m f/\∀b c d,f b c->c.np=m.np->Rel K a c e d->Frm a H d->Q b d
inductive RelRs(K:Kd)(α:Al)(Hb H:Hp):List R->List V->Prop where
 |nil:RelRs K α Hb H [] []
 |cons {r:R}{rs:List R}{v:V}{vs:List V}:RelR K α Hb H r v->RelRs K α Hb H rs vs->RelRs K α Hb H (r::rs) (v::vs)
noncomputable def tMA(K:Kx)(w:WA):TA:=λd H Q=>∃a m e,Rel K a m d H/\w m e/\∀rs c vs b,e rs c->c.np=m.np->Rel K a c d b->RelRs K a H b rs vs->Frm a H b->Q vs b
theorem PE.wk{t t':TE}(h:PE X e t)(k:∀a H Q,t' a H Q->t a H Q):PE X e t':=λp s a H Q I q=>h p s a H Q I (k _ _ _ q)
theorem PT.wk{t t':TT}(h:PT X e t)(k:∀a H Q,t' a H Q->t a H Q):PT X e t':=λp s a H Q I q=>h p s a H Q I (k _ _ _ q)
theorem PW.wk{t t':TT}(h:PW X e t)(k:∀a H Q,t' a H Q->t a H Q):PW X e t':=λw p s a H Q I q=>h w p s a H Q I (k _ _ _ q)
theorem PA.wk{e:List Expr}{t t':TA}(h:PA X e t)(k:∀a H Q,t' a H Q->t a H Q):PA X e t':=λb p s a H Q I q=>h b p s a H Q I (k _ _ _ q)
theorem PS.wk{e:Stmt}{t t':TS}(h:PS X e t)(k:∀D a H,t' D a H->t D a H):PS X e t':=λp s a H D I q=>h p s a H D I (k _ _ _ q)
theorem PSs.wk{e:List Stmt}{t t':TS}(h:PSs X e t)(k:∀D a H,t' D a H->t D a H):PSs X e t':=λp s a H D I q=>h p s a H D I (k _ _ _ q)
noncomputable abbrev ME(X:Cx)(e:Expr)(w:WE):Prop:=PE X e (tM X.kx w)
noncomputable abbrev MT(X:Cx)(e:Expr)(w:WT):Prop:=PT X e (tMT X.kx w)
noncomputable abbrev MW(X:Cx)(e:Expr)(w:WT):Prop:=PW X e (tMT X.kx w)
noncomputable abbrev MA(X:Cx)(es:List Expr)(w:WA):Prop:=PA X es (tMA X.kx w)
section
variable {X:Cx}{a b c:Expr}{es:List Expr}{f g l:WE}{pos:Pos}
noncomputable def wVar(i:Nat):WE:=λm K=>∃r,m.vs[i]?=some (some r)/\K r m
noncomputable abbrev wC(d:dL):WE:=λm K=>K (.imm d) m
theorem IK{t:TE}{w:WE}(h:PE X a t)(k:∀d m e H K Q,Rel X.kx d m e H->w m K->(∀r j v i,K r j->j.np=m.np->Rel X.kx d j e i->RelR X.kx d H i r v->Frm d H i->Q v i)->t e H Q):ME X a w:=
 h.wk<|by intro e H Q ⟨d,m,K,R,n,fin⟩;exact k d m e H K Q R n fin
theorem me_c{d:dL}(h:PE X a (tC v))(hd:∀(K:Kd) H,Den K H d v):ME X a (wC d):=
 IK h λk m i H j Q R e fin=>fin _ m v H e rfl R (hd _ _) (Frm.refl _ _)
def Mi{i j pos}:ME X (.Constant (.int i) j pos) (wC (.int i)):=me_c Kz λ_ _=>by simp[Den]
def QQ{i j pos}:ME X (.Constant (.bool i) j pos) (wC (.bool i)):=me_c Qm λ_ _=>by simp[Den]
def Kg{i j pos}:ME X (.Constant (.str i) j pos) (wC (.str i)):=me_c Qe λ_ _=>by simp[Den]
def NH{j pos}:ME X (.Constant .none j pos) (wC .none):=me_c Pc λ_ _=>by simp[Den]
theorem Lj(h:PE X a (tVar i)):ME X a (wVar i):=
 IK h λo m p H K Q R d fin=>by
  let⟨r,e,k⟩:=d;let⟨v,n,j⟩:=R.var i r e;exact⟨v,n,fin r m v H k rfl R j.rr (Frm.refl _ _)⟩
def mv(i:Nat){pos:Pos}(e:X.N[i]?=some x:=by rfl)(d:Vis X.env.scope x:=by first|exact agN rfl|exact ada (agN rfl)|exact ada (ada rfl))(hd:(x==("__debug__" : Str))=false:=by decide)(h:(x==("__classdict__" : Str))=false:=by decide):ME X (.Name x pos) (wVar i):=Lj (P8 e d hd h)
noncomputable abbrev WO:=R->R->MSt->(R->Prop)->Prop
noncomputable def rM(K:Kx)(o:WO):R2:=λx y H Q=>∃d m i k n r1 h j,Rel K d m i H/\RelR K d k H r1 x/\RelR K d n H h y/\o r1 h m j/\∀r v e,j r->Rel K d m i e->RelR K d H e r v->Frm d H e->Q v e
noncomputable abbrev wBin(o:WO)(f g:WE):WE:=λm K=>f m λr1 m1=>g m1 λd m2=>o r1 d m2 λr=>K r m2
theorem vn(h:tM X.kx (wBin o f g) σ H Q):tOp (rM X.kx o) (tM X.kx f) (tM X.kx g) σ H Q:=by
 let⟨j,m,K,s,A,fin⟩:=h;refine⟨j,m,_,s,A,λr1 m1 x t z n1 R n q=>⟨j,m1,_,R,z,λu m2 y C B n2 d e i=>?_⟩⟩;refine⟨j,m2,σ,H,t,r1,u,_,d,n.keep s R i,e,B,λr v w k p rr F=>?_⟩;exact fin r m2 v w k (n2.trans n1) p (rr.base d (q.trans i)) ((q.trans i).trans F)
def L7{op:Operator}(ho:OpR X (acs op) (rM X.kx o))(ha:ME X a f)(hb:ME X b g):ME X (.BinOp a op b pos) (wBin o f g):=(Qp ho ha hb).wk λ_ _ _ h=>vn h
def Nk(ho:OpR X (abR op) (rM X.kx o))(ha:ME X a f)(hb:ME X b g)(d:ac4 op b=false):ME X (.Compare a [op] [b] pos) (wBin o f g):=(IM ho ha hb d).wk λ_ _ _ h=>vn h
noncomputable abbrev onBl(P:Bool->Prop):R->Prop
 | .imm (.bool k)=>P k
 |_=>False
theorem MR{K:Kx}{P:Bool->Prop}(rr:RelR K α Hb H r v)(h:onBl P r):∃b,r = .imm (.bool b)/\v = .bl b/\P b:=by
 cases r with
 |obj _=>exact h.elim
 |new _=>exact h.elim
 | «at» _ _=>exact h.elim
 |newT _=>exact h.elim
 | imm d=>
  cases d with
  |bool b=>
   have e:=rr;exact⟨b,rfl,e,h⟩
  |none=>exact h.elim
  |int _=>exact h.elim
  |str _=>exact h.elim
  |list _=>exact h.elim
  |tuple _=>exact h.elim
  |dict _=>exact h.elim
noncomputable abbrev yG(w:WE):WT:=λm K=>w m λr d=>onBl (λk=>K k d) r
theorem wM{t:TE}{Q:Bool->Hp->Prop}{w:WE}(k:∀e,tM X.kx w σ H e->t σ H e)(h:tMT X.kx (yG w) σ H Q):P6 t σ H Q:=by
 let⟨i,m,K,j,o,fin⟩:=h;refine k _ ⟨i,m,_,j,o,λr p v n d n1 R rr F=>?_⟩;let⟨b,s,q,d⟩:=MR rr d;exact⟨b,q,fin b p n d n1 R F⟩
def LM(ho:OpR X (abR op) (rM X.kx o))(ha:ME X a f)(hb:ME X b g)(d:ac4 op b=false):MT X (.Compare a [op] [b] pos) (yG (wBin o f g)):=(GQ ho ha hb d).wk λ_ _ _ h=>wM (λ_=>vn) h
def LZ(ha:ME X a f)(d:∀w,isTrue a X.env w=(do let v <- w;adw a.pos;adx [v] (truthy v)):=by intro _;rfl):MT X a (yG f):=(Nq ha d).wk λ_ _ _ h=>wM (λ_ h=>h) h
end
section
variable {X:Cx}{a b c:Expr}{es:List Expr}{l A B:WE}{pos:Pos}
variable {j y:WT}{rest:List Expr}
noncomputable abbrev wAnd(t u:WT):WT:=λm K=>t m λc m1=>if c=true then u m1 K else K false m1
noncomputable abbrev wOr(t u:WT):WT:=λm K=>t m λc m1=>if c=true then K true m1 else u m1 K
noncomputable abbrev wNot(t:WT):WT:=λm K=>t m λc m1=>K (!c) m1
def JD(ha:MT X a j):MW X (.BoolOp .And [a] pos) j:=I9 ha
def OX(ha:MT X a j):MW X (.BoolOp .Or [a] pos) j:=N9 ha
theorem Nu(ha:MT X a j)(hb:MW X (.BoolOp .And (b::rest) pos) y):MW X (.BoolOp .And (a::b::rest) pos) (wAnd j y):=(LH ha hb).wk<|by
 intro q H Q ⟨e,m,K,i,n,fin⟩;refine⟨e,m,_,i,n,λo m1 f k n1 R F=>?_⟩
 cases o with
 |true=>rw[if_pos rfl];exact⟨e,m1,K,R,k,λb2 m2 h p n2 d g=>fin b2 m2 h p (n2.trans n1) d (F.trans g)⟩
 |false=>rw[if_neg aax];exact fin _ m1 f k n1 R F
theorem Qw(ha:MT X a j)(hb:MW X (.BoolOp .Or (b::rest) pos) y):MW X (.BoolOp .Or (a::b::rest) pos) (wOr j y):=(QL ha hb).wk<|by
 intro q H Q ⟨e,m,K,i,n,fin⟩;refine⟨e,m,_,i,n,λo m1 f k n1 R F=>?_⟩
 cases o with
 |true=>rw[if_pos rfl];exact fin _ m1 f k n1 R F
 |false=>rw[if_neg aax];exact⟨e,m1,K,R,k,λb2 m2 h p n2 d g=>fin b2 m2 h p (n2.trans n1) d (F.trans g)⟩
theorem Po(ha:MT X a j):MT X (.UnaryOp .Not a pos) (wNot j):=(J4 ha).wk<|by intro g H Q ⟨f,m,K,d,h,fin⟩;exact
 ⟨f,m,_,d,h,λi m1 e k n1 R F=>fin _ m1 e k n1 R F⟩
def tm(b:Int):Den K H (.int b) (.int b):=rfl
def GJ(b:Str):Den K H (.str b) (.str b):=rfl
noncomputable abbrev WU:=R->MSt->(R->Prop)->Prop
noncomputable def uM(K:Kx)(o:WU):V->Hp->VK->Prop:=λx H Q=>∃d m f h r1 g,Rel K d m f H/\RelR K d h H r1 x/\o r1 m g/\∀r v e,g r->Rel K d m f e->RelR K d H e r v->Frm d H e->Q v e
noncomputable abbrev wUn(o:WU)(l:WE):WE:=λm K=>l m λr1 m1=>o r1 m1 λr=>K r m1
theorem Si{op:UnaryOp}{o:WU}(ho:UnR X (unaryOp op) (uM X.kx o))(ha:ME X a l):ME X (.UnaryOp op a pos) (wUn o l):=(QX ho ha).wk<|by intro h H Q ⟨g,m,K,i,q,fin⟩;exact
 ⟨g,m,_,i,q,λr1 m1 x s p n1 R d f=>⟨g,m1,h,H,r1,_,R,d,p,λr v n k e rr F=>fin r m1 v n k n1 e (rr.base R f) (f.trans F)⟩⟩
noncomputable def tFz(t:TE):TE:=λe H Q=>t e H λv d=>Q v d\/∃a x,d a=some (.lst x)/\∀o,Q v (upd d a (.frz o (.lst x)))
theorem Sd{t:TE}(h:PE X a t):PE X a (tFz t):=by
 intro f s k H Q I q;refine thn (h f s k H _ I q) λu s1 ⟨v,i,g,r1,d⟩=>?_;rcases d with d|⟨p,x,e,d⟩
 .exact⟨v,i,g,r1,d⟩
 .obtain⟨o,I2⟩:=g.freeze e;exact⟨v,_,I2,r1,d o⟩
theorem Rel.at{K:Kx}{m:MSt}(R:Rel K α m σ H)(p:Pers H H')(e:∀a∈ads α,H' a=H a)(x:Frm α H H'):Rel K α m σ H':=by
 refine⟨R.nd,R.len,λk f ds g n=>?_,R.vlen,λi r h=>?_,R.npl,R.ebl,R.ebx.trans ⟨rfl,x,λ_ h=>.inl h,λa ha=>?_⟩⟩
 .exact(R.own k f ds g n).mono p λa ha=>e a (abB.mpr ⟨f,oR g,ha⟩)
 .obtain⟨v,ev,rv⟩:=R.var i r h;refine⟨v,ev,?_⟩
  cases r with
  |imm d=>exact Den.mono p rv
  |obj k=>exact rv
  | «at» k p=>exact rv
  |new ds=>exact rv
  |newT t=>exact rv
 .obtain⟨o,q,_⟩:=R.mem ha;exact⟨o,(e a ha).trans q⟩
theorem Rel.at'{K:Kx}{m:MSt}(R:Rel K α m σ H)(p:Pers H H')(e:∀a∈ads α,H' a=H a)(x:Ext K.eb.np K.eb.be K.eb.H α H'):Rel K α m σ H':=by
 refine⟨R.nd,R.len,λk f ds g n=>?_,R.vlen,λi r h=>?_,R.npl,R.ebl,x⟩
 .exact(R.own k f ds g n).mono p λa ha=>e a (abB.mpr ⟨f,oR g,ha⟩)
 .obtain⟨v,ev,rv⟩:=R.var i r h;refine⟨v,ev,?_⟩
  cases r with
  |imm d=>exact Den.mono p rv
  |obj k=>exact rv
  | «at» k p=>exact rv
  |new ds=>exact rv
  |newT t=>exact rv
theorem bu{a:Addr}{o:HO}(h:H a=none\/∃u,H a=some u/\Mu u=true):Pers H (upd H a o) where
 tups:=λb x e=>by
  rw[au];exact e;rintro rfl;rcases h with h|⟨d,h,z⟩<;>(rw[e]at h;cases h)
  cases z
 frzs:=λb o u e=>by
  rw[au];exact e;rintro rfl;rcases h with h|⟨d,h,z⟩<;>(rw[e]at h;cases h)
  cases z
def uC{a:Addr}{o:HO}(h:H a=some (.lst xs)):Pers H (upd H a o):=bu (.inr ⟨_,h,rfl⟩)
theorem cz{a:Addr}{o:HO}(h:H a=none):Frm α H (upd H a o):=λb d e _=>by
 rw[au (bf e h)];exact e
theorem Rel.lay{K:Kx}{m:MSt}{a:Addr}{o:HO}(R:Rel K α m σ H)(h:H a=none):Rel K α m σ (upd H a o):=
 R.at (bu (.inl h)) (λb hb=>au λe=>R.out h (e▸hb)) (cz h)
noncomputable abbrev wImm(w:WE):WE:=λm K=>w m λr e=>match r with| .imm d=>K (.imm d) e | .new ds=>K (.imm (.list ds)) e|_=>False
theorem OJ(ha:ME X a l):ME X a (wImm l):=(Sd ha).wk<|by
 intro I H Q ⟨i,m,K,s,D,fin⟩;refine⟨i,m,_,s,D,λr m1 v f k n1 R rr F=>?_⟩
 cases r with
 |imm d=>exact .inl (fin _ m1 v f k n1 R rr F)
 |obj _=>exact k.elim
 | «at» _ _=>exact k.elim
 |newT _=>exact k.elim
 | new ds=>
  let⟨p,x,G,n,q,g⟩:=rr;refine .inr ⟨p,x,q,λo=>?_⟩;have z:Pers f (upd f p (.frz o (.lst x))):=uC q;have fr:Frm i H (upd f p (.frz o (.lst x))):=λb u e w=>by
   rw[au (bf e n)];exact F b u e w
  have old:Ext X.kx.eb.np i H i _:=⟨rfl,fr,λ_ h=>.inl h,λb hb=>by
   have t:b≠p:=λe=>s.out n (e▸hb);rw[au t];let⟨C,E,_⟩:=R.mem hb;exact⟨C,E⟩⟩
  refine fin _ m1 v _ k n1 (R.at' z (λb hb=>au λe=>s.out n (e▸hb)) (s.ebx.trans old)) (?_) λb u e w=>?_
  .exact⟨p,x,G,.inl ⟨o,ay⟩,g.mono z⟩
  .rw[au (bf e n)];exact F b u e w
noncomputable abbrev wNil:WA:=λm K=>K [] m
noncomputable abbrev LL(w:WE)(f:WA):WA:=λm K=>w m λr m1=>f m1 λrs m2=>K (r::rs) m2
theorem RelRs.base{K:Kx}{m:MSt}(d:Rel K α m σ H)(F:Frm α H0 H):∀{rs:List R}{vs:List V},RelRs K α H H' rs vs->RelRs K α H0 H' rs vs
 |_,_,.nil=>.nil
 |_,_,.cons h t=>.cons (h.base d F) (t.base d F)
variable {f:WA}
theorem Oo:MA X [] wNil:=(NR).wk<|by intro d H Q ⟨e,m,K,R,h,fin⟩;exact fin _ m _ H h rfl R .nil (Frm.refl _ _)
theorem Gj(ha:ME X a l)(hr:MA X es f)(hs:aac (a::es) X.env=(false,eval a X.env)::aac es X.env:=by first|exact ba rfl|rfl):MA X (a::es) (LL l f):=(Gh ha hr hs).wk<|by intro q H Q ⟨i,m,K,g,n,fin⟩;exact
 ⟨i,m,_,g,n,λr m1 v s k n1 R rr h=>⟨i,m1,_,R,k,λrs m2 vs o p n2 e d F=>fin _ m2 _ o p (n2.trans n1) e (.cons (rr.keep g R F) (d.base R h)) (h.trans F)⟩⟩
noncomputable def gA:List R->Option (List dL)
 |[]=>some []
 | .imm d::rs=>(gA rs).map (d :: ·)
 |_::_=>none
theorem RelRs.imm{K:Kx}:∀{rs:List R}{vs:List V}{ds:List dL},RelRs K α H0 H rs vs->gA rs=some ds->DenAll K H ds vs
 |_,_,_,.nil,e=>by cases e;exact DenAll.nil
 |_,_,ds,.cons (r:=.imm d) (rs:=rs) h t,e=>by
  simp only[gA]at e
  cases q:gA rs with
  |none=>rw[q]at e;cases e
  |some g=>rw[q]at e;cases e;exact DenAll.cons h (t.imm q)
 |_,_,_,.cons (r:=.obj _) h t,e=>by cases e
 |_,_,_,.cons (r:=.new _) h t,e=>by cases e
 |_,_,_,.cons (r:=.at _ _) h t,e=>by cases e
 |_,_,_,.cons (r:=.newT _) h t,e=>by cases e
noncomputable def F8(P:List dL->Prop):Option (List dL)->Prop
 |some ds=>ds.length≤aad/\P ds
 |none=>False
noncomputable abbrev wTup(f:WA):WE:=λm K=>f m λrs d=>F8 (λds=>K (.imm (.tuple ds)) d) (gA rs)
noncomputable abbrev wLst(f:WA):WE:=λm K=>f m λrs d=>F8 (λds=>K (.new ds) d) (gA rs)
theorem Ki{x1}(h:MA X es f):ME X (.Tuple es x1 pos) (wTup f):=(Lz h).wk<|by
 intro r H Q ⟨d,m,K,i,o,fin⟩;refine⟨d,m,_,i,o,λrs m1 vs q k n1 R rr F=>?_⟩
 cases e:gA rs with
 |none=>rw[e]at k;exact k.elim
 |some ds=>
  rw[e]at k;let⟨n,k⟩:=k;have g:=rr.imm e;refine⟨by rw[<-g.length];exact n,λp hp=>fin _ m1 _ _ k n1 (R.lay hp) (?_) (F.trans (cz hp))⟩;exact⟨p,vs,rfl,SqT.of ay,g.mono (bu (.inl hp))⟩
theorem Ku(h:MA X es f):ME X (.List es pos) (wLst f):=(NG h).wk<|by
 intro r H Q ⟨d,m,K,i,o,fin⟩;refine⟨d,m,_,i,o,λrs m1 vs q k n1 R rr F=>?_⟩
 cases e:gA rs with
 |none=>rw[e]at k;exact k.elim
 |some ds=>
  rw[e]at k;let⟨n,k⟩:=k;have g:=rr.imm e;refine⟨by rw[<-g.length];exact n,λp hp=>fin _ m1 _ _ k n1 (R.lay hp) ((RelR.base R F (⟨p,vs,rfl,hp,ay,g.mono (bu (.inl hp))⟩))) (F.trans (cz hp))⟩
noncomputable abbrev WC:=List R->MSt->(R->Prop)->Prop
noncomputable def cM(K:Kx)(o:WC):List V->Hp->VK->Prop:=λx H Q=>∃d m g i rs h,Rel K d m g H/\RelRs K d i H rs x/\o rs m h/\∀r v e,h r->Rel K d m g e->RelR K d H e r v->Frm d H e->Q v e
noncomputable abbrev wCB(o:WC)(f:WA):WE:=λm K=>f m λrs m1=>o rs m1 λr=>K r m1
theorem Nh{o:WC}(h:tM X.kx (wCB o f) σ H Q):tCB (cM X.kx o) (tMA X.kx f) σ H Q:=by
 let⟨i,m,K,n,q,fin⟩:=h;exact⟨i,m,_,n,q,λrs m1 vs s k n1 R rr g=>⟨i,m1,σ,H,rs,_,R,rr,k,λr v p k e d F=>fin r m1 v p k n1 e (d.base R g) (g.trans F)⟩⟩
theorem BV{id:String}{o:WC}(i:di X (.builtin id) (cM X.kx o))(q:Gl X x)(g:X.mg x=none)(k:abb x=some (.builtin id))(ha:MA X (a::es) f)(n:x ≠ "__name__":=by decide)(e:(x==("__debug__" : Str))=false:=by decide)
  (m:aac (a::es) X.env=(false,eval a X.env)::aac es X.env:=by first|exact ba rfl|rfl) (d:(acg pos (aac es X.env)).any (·.1)=false:=by rfl):ME X (.Call (.Name x p) (a::es) [] pos) (wCB o f):=(AY i q g k ha n e m d).wk λ_ _ _ h=>Nh h
theorem zg{T:String}{o:WC}(i:di X (.type T) (cM X.kx o))(q:Gl X x)(g:X.mg x=none)(k:abb x=some (.type T))(ha:MA X (a::es) f)(n:x ≠ "__name__":=by decide)(e:(x==("__debug__" : Str))=false:=by decide)
  (m:aac (a::es) X.env=(false,eval a X.env)::aac es X.env:=by first|exact ba rfl|rfl) (d:(acg pos (aac es X.env)).any (·.1)=false:=by rfl):ME X (.Call (.Name x p) (a::es) [] pos) (wCB o f):=(Ap i q g k ha n e m d).wk λ_ _ _ h=>Nh h
end
inductive Ag where
 |imm (d:dL)|own (ds:List dL)|tr (t:dL)
noncomputable abbrev SpM:=List Ag->(R->List (List dL)->Prop)->Prop
inductive RelAs(K:Kd)(H:Hp):List Ag->List V->Al->Prop where
 |nil:RelAs K H [] [] []
 |imm {d:dL}{v:V}{as:List Ag}{vs:List V}{β:Al}:Den K H d v->RelAs K H as vs β->RelAs K H (.imm d::as) (v::vs) β
 |own {ds:List dL}{a:Addr}{as:List Ag}{vs:List V}{β:Al}:OwnAt K H (.L a) ds->RelAs K H as vs β->RelAs K H (.own ds::as) (.ref a::vs) (.L a::β)
 |tr {t:dL}{a:Addr}{τ:List (List Nat×Addr)}{as:List Ag}{vs:List V}{β:Al}:OwnAt K H (.T τ) [t]->τ.lookup []=some a->RelAs K H as vs β->RelAs K H (.tr t::as) (.ref a::vs) (.T τ::β)
theorem RelAs.length:∀{as:List Ag}{vs:List V}{β:Al},RelAs K H as vs β->as.length=vs.length
 |_,_,_,.nil=>rfl
 |_,_,_,.imm _ t=>by simp[t.length]
 |_,_,_,.own _ t=>by simp[t.length]
 |_,_,_,.tr _ _ t=>by simp[t.length]
structure zR(K:Kd)(H:Hp)(β:Al)(outs:List (List dL)):Prop where
 len:outs.length=β.length
 at_:∀(j:Nat) (ao:Ao) (ds:List dL),β[j]?=some ao->outs[j]?=some ds->OwnAt K H ao ds
noncomputable def spOf(K:Kd)(n:Nat)(sp:SpM):Sp:=λvs H Q _=>∃as a c,as.length=n/\(ads a).Nodup/\RelAs K H as vs a/\sp as c/\∀r o v b,c r o->zR K b a o->RelR K a H b r v->Frm a H b->Q v b
theorem spOf.len{E:XK}(h:spOf K n sp vs H Q E):vs.length=n:=by
 let⟨as,b,c,a,_,r,_⟩:=h;rw[<-r.length];exact a
noncomputable def im(m:MSt):List R->Option (List Ag×List Nat)
 |[]=>some ([],[])
 | .imm d::rs=>match im m rs with|some (as,ks)=>some (.imm d::as,ks)|none=>none
 | .obj k::rs=>match m.os[k]?,im m rs with|some ds,some (as,ks)=>some (.own ds::as,k::ks)|_,_=>none
 | .at k []::rs=>match m.os[k]?,im m rs with|some [t],some (as,ks)=>some (.tr t::as,k::ks)|_,_=>none
 |_::_=>none
noncomputable def cu:List (List dL)->List Nat->List (List dL)->List (List dL)
 |os,k::ks,o::outs=>cu (os.set k o) ks outs
 |os,_,_=>os
noncomputable def mapR(k:List Nat):R->R
 | .imm d=>.imm d
 | .new ds=>.new ds
 | .obj j=>.obj (k.getD j 0)
 | .at j p=>.at (k.getD j 0) p
 | .newT t=>.newT t
noncomputable def Au(sp:SpM)(w:WA):WE:=λm K=>w m λrs m1=>match im m1 rs with
 |some (as,ks)=>ks.Nodup/\sp as λr o=>K (mapR ks r) {m1 with os:=cu m1.os ks o}
 |none=>False
theorem iQ:∀(b:List Nat) (os a:List (List dL)),(cu os b a).length=os.length
 |[],_,_=>by simp[cu]
 |_::_,_,[]=>by simp[cu]
 |k::b,os,o::a=>by simp[cu,iQ b]
theorem iU:∀(b:List Nat) (os a:List (List dL)) (k:Nat),k∉b->(cu os b a)[k]?=os[k]?
 |[],_,_,_,_=>by simp[cu]
 |_::_,_,[],_,_=>by simp[cu]
 |k'::b,os,o::a,k,h=>by
  rw[aam]at h;rw[not_or]at h;show(cu _ b a)[k]?=_;rw[iU b _ _ k h.2,aaC (abf h.1)]
theorem pf:∀(b:List Nat) (os a:List (List dL)) (j k:Nat) (ds:List dL),b.Nodup->b[j]?=some k->a[j]?=some ds->k<os.length->(cu os b a)[k]?=some ds
 |[],_,_,_,_,_,_,h,_,_=>by simp at h
 |_::_,_,[],_,_,_,_,_,h,_=>by simp at h
 |k'::b,os,o::a,0,k,ds,nd,h1,h2,hk=>by
  simp at h1 h2;subst h1;subst h2;show(cu _ b a)[k']?=_;rw[iU b _ _ k' (aaR.mp nd).1,aaI hk]
 |k'::b,os,o::a,j+1,k,ds,nd,h1,h2,hk=>by
  exact pf b _ a j k ds (aaR.mp nd).2 ‹_› ‹_› (by simpa)
def fH(c:Al):(ads c).Nodup↔(∀ao∈c,ao.ads.Nodup)/\c.Pairwise λx y=>∀a∈x.ads,∀b∈y.ads,a≠b:=List.pairwise_flatMap
theorem gl(nd:(ads α).Nodup){x y:Ao}(hi:α[i]?=some x)(f:α[j]?=some y)(h:i≠j)(c:a∈x.ads)(d:a∈y.ads):False:=by
 have pw:=((fH α).mp nd).2;let⟨b,e⟩:=DL.mp hi;let⟨p,q⟩:=DL.mp f;subst e q;rcases ad8 h with l|l
 .exact aaU.mp pw i j b p l a c a d rfl
 .exact aaU.mp pw j i p b l a d a c rfl
def ju{x:Ao}(hi:α[i]?=some x)(h:a∈x.ads):a∈ads α:=abB.mpr ⟨x,oR hi,h⟩
theorem ig(h:a∈ads α):∃(i:Nat) (x:Ao),α[i]?=some x/\a∈x.ads:=by
 let⟨c,f,b⟩:=abB.mp h;let⟨k,d,e⟩:=aa0.mp f;exact⟨k,c,by rw[iO d,e],b⟩
section
variable {K:Kx}{c:Al}{m:MSt}{g:St}{H l f:Hp}
theorem ip(j:Rel K c m g H):∀{rs:List R}{vs:List V}{as:List Ag}{n:List Nat},RelRs K c l H rs vs->im m rs=some (as,n)->∃β,RelAs K H as vs β/\abJ (λ(k:Nat) (ao:Ao)=>c[k]?=some ao) n β
 |_,_,_,_,.nil,e=>by cases e;exact⟨[],.nil,.nil⟩
 | _,_,as,n,.cons (r:=.imm d) (rs:=rs) h t,e=>by
  simp only[im]at e
  cases q:im m rs with
  |none=>rw[q]at e;cases e
  |some p=>
   rw[q]at e;cases e;let⟨β,i,b⟩:=ip j t q;exact⟨β,.imm h i,b⟩
 | _,_,as,n,.cons (r:=.obj k) (rs:=rs) h t,e=>by
  simp only[im]at e
  cases q1:m.os[k]? with
  |none=>rw[q1]at e;cases e
  | some ds=>
   cases q:im m rs with
   |none=>rw[q1,q]at e;cases e
   |some p=>
    let⟨u,s⟩:=p;rw[q1,q]at e;cases e;let⟨β,i,b⟩:=ip j t q;let⟨a,o,rfl⟩:=h;exact⟨.L a::β,.own (j.own k _ ds o q1) i,.cons o b⟩
 |_,_,as,n,.cons (r:=.at k []) (rs:=rs) h t,e=>by
  simp only[im]at e
  split at e
  .rename_i t' u s q1 q;cases e;let⟨β,i,b⟩:=ip j t q;let⟨v,a,o,w,rfl⟩:=h;exact⟨.T v::β,.tr (j.own k _ _ o q1) w i,.cons o b⟩
  .cases e
 |_,_,_,_,.cons (r:=.at _ (_::_)) h t,e=>by cases e
 |_,_,_,_,.cons (r:=.new _) h t,e=>by cases e
 |_,_,_,_,.cons (r:=.newT _) h t,e=>by cases e
theorem f7(nd:(ads c).Nodup)(h:ks.Nodup)(p:abJ (λ(k:Nat) (ao:Ao)=>c[k]?=some ao) ks β):(ads β).Nodup:=by
 have one:=((fH c).mp nd).1
 induction p with
 |nil=>exact adC
 | @cons k ao ks β e t ih=>
  have d:=ih (aaR.mp h).2;rw[fH]at d⊢;refine⟨λx n=>?_,afr.mpr ⟨λy s a ha b hb z=>?_,d.2⟩⟩
  .rcases aam.mp n with rfl|n
   .exact one _ (oR e)
   .exact d.1 x n
  .subst z;let⟨j,w,u⟩:=aa0.mp s;let⟨v,o,q⟩:=Paired.get2 t (i:=j) (b:=y) (by simp_all);have r:=Classical.byContradiction λne=>gl nd e q ne ha hb;exact(aaR.mp h).1 (r▸oR o)
theorem CK(R:Rel K c m g H){s:List (List dL)}(nd:ks.Nodup)(p:abJ (λ(k:Nat) (ao:Ao)=>c[k]?=some ao) ks β)(O:zR K f β s)(F:Frm β H f) :
  Rel K c {m with os:=cu m.os ks s} g f/\Frm c H f:=by
 have B:∀a∈ads β,∃k ao,k∈ks/\c[k]?=some ao/\a∈ao.ads:=λa ha=>by
  let⟨j,ao,G,x⟩:=ig ha;let⟨V,w,I⟩:=Paired.get2 p G;exact⟨V,ao,oR w,I,x⟩
 have A:Frm c H f:=λb o e n=>F b o e λz=>by
  let⟨k,ao,_,I,x⟩:=B b z;exact n (ju I x)
 have M:=R.pers A;have y:∀(k:Nat) (ao:Ao) (ds:List dL),c[k]?=some ao->(cu m.os ks s)[k]?=some ds->OwnAt K f ao ds:=λk ao ds w u=>by
  have E:k<m.os.length:=by rw[<-R.len];exact(DL.mp w).1
  by_cases x:k∈ks
  .obtain⟨j,hj,G⟩:=aa0.mp x;have N:ks[j]?=some k:=by rw[iO hj,G]
   let⟨W,P,S⟩:=Paired.get' p N;rw[w]at S;cases S;have J:j<s.length:=by rw[O.len];exact(DL.mp P).1
   have Q:s[j]?=some s[j]:=iO J;rw[pf ks m.os s j k _ nd N Q E]at u;cases u;exact O.at_ j _ _ P Q
  .rw[iU ks _ _ k x]at u;have q:=R.own k ao ds w u;refine q.mono M λa ha=>?_;let⟨o,L,_⟩:=q.mem ha;rw[L];refine F a o L λz=>?_;let⟨X,T,D,U,C⟩:=B a z;exact gl R.nd w U (λz=>x (z▸D)) ha C
 refine⟨⟨R.nd,by show c.length=(cu m.os ks s).length;rw[iQ];exact R.len,y,R.vlen,λi r h=>?_,R.npl,R.ebl,R.ebx.trans ⟨rfl,A,λ_ h=>.inl h,λa ha=>?_⟩⟩,A⟩
 .obtain⟨v,ev,rv⟩:=R.var i r h;refine⟨v,ev,?_⟩
  cases r with
  |imm d=>exact Den.mono M rv
  |obj k=>exact rv
  | «at» k p=>exact rv
  |new ds=>exact rv
  |newT t=>exact rv
 .obtain⟨k,ao,w,x⟩:=ig ha;have E:k<(cu m.os ks s).length:=by rw[iQ,<-R.len];exact(DL.mp w).1
  let⟨o,q,_⟩:=(y k ao _ w (iO E)).mem x;exact⟨o,q⟩
theorem CZ{K:Kd}(p:abJ (λ(k:Nat) (ao:Ao)=>c[k]?=some ao) ks β)(h:RelR K β H f r v):RelR K c H f (mapR ks r) v:=by
 have get:∀{j:Nat}{ao:Ao},β[j]?=some ao->c[ks.getD j 0]?=some ao:=λ{j ao} b=>by
  let⟨k,z,o⟩:=Paired.get2 p b
  simp_all
 cases r with
 |imm d=>exact h
 |new ds=>exact h
 |newT t=>exact h
 |obj j=>
  let⟨a,b,e⟩:=h;exact⟨a,get b,e⟩
 | «at» j q=>
  let⟨n,a,b,i,e⟩:=h;exact⟨n,a,get b,i,e⟩
end
section
variable {X:Cx}{a:Expr}{es:List Expr}{w:WA}{pos p:Pos}{k n:Nat}{f:Addr}{fd:acV}{ps:List Str}{sp:SpM}{x:Str}{CX:CXT}
theorem JB{E:XK}(h:tM X.kx (Au sp w) σ H Q)(C:∀as K,sp as K->as.length=n):Lp (spOf X.kd n sp) [] E (tMA X.kx w) σ H Q:=by
 let⟨u,m,K,y,B,fin⟩:=h;refine⟨u,m,_,y,B,λrs m1 vs D c n1 R rr l=>?_⟩
 cases e:im m1 rs with
 |none=>rw[e]at c;exact c.elim
 |some q=>
  let⟨as,G⟩:=q;rw[e]at c;let⟨nd,b⟩:=c;let⟨s,A,j⟩:=ip R rr e;refine⟨as,s,_,C _ _ b,f7 R.nd nd j,by rw[aa7];exact A,b,λr o v z d O g F=>?_⟩;let⟨i,t⟩:=CK R nd j O F;exact fin _ _ v z d n1 i ((CZ j g).base R l) (l.trans t)
theorem Jl{E:XK}(F:FnOk X.prog X.w X.K X.mg X.base CX k f fd ps (spOf X.kd n sp))(hr:Room k X.A)(l:Gl X x)(d:X.mg x=some (.ref f))(i:adz X.K (.ref f)=true)(hb:Binds X.K fd ps [])(j:um CX X E)(g:∀as K,sp as K->as.length=n)
  (ha:MA X (a::es) w) (c:(x==("__debug__" : Str))=false:=by decide) (e:aac (a::es) X.env=(false,eval a X.env)::aac es X.env:=by first|exact ba rfl|rfl) (b:(acg pos (aac es X.env)).any (·.1)=false:=by rfl) :
  ME X (.Call (.Name x p) (a::es) [] pos) (Au sp w):=(JI F hr l d i hb .nil j ha c e b).wk λ_ _ _ h=>JB h g
end
structure d7 where
 nx:MSt->Prop
 rt:R->MSt->Prop
 bk:MSt->Prop:=λ_=>False
 ct:MSt->Prop:=λ_=>False
noncomputable abbrev WS:=d7->MSt->Prop
theorem RelR.ext{np:Nat}{c:Al}(x:Ext np α H α1 H1)(h:RelR K c H1 H2 r v):RelR K c H H2 r v:=by
 cases r with
 |imm d=>exact h
 |obj k=>exact h
 | «at» k p=>exact h
 |new ds=>
  let⟨a,j,e,n,q,g⟩:=h;exact⟨a,j,e,x.nil n,q,g⟩
 |newT t=>
  let⟨f,a,e,i,nd,n,g⟩:=h;exact⟨f,a,e,i,nd,λb hb=>x.nil (n b hb),g⟩
structure EndsOk(K:Kx)(np:Nat)(α:Al)(H:Hp)(De:d7)(D:Ends):Prop where
 nx:∀α' m' σ' H',De.nx m'->m'.np=np->Rel K α' m' σ' H'->Ext np α H α' H'->D.nx σ' H'
 rt:∀r α' m' σ' v H',De.rt r m'->m'.np=np->Rel K α' m' σ' H'->RelR K α' H H' r v->Ext np α H α' H'->D.rt v H'
 bk:∀α' m' σ' H',De.bk m'->m'.np=np->Rel K α' m' σ' H'->Ext np α H α' H'->D.bk σ' H'
 ct:∀α' m' σ' H',De.ct m'->m'.np=np->Rel K α' m' σ' H'->Ext np α H α' H'->D.ct σ' H'
theorem EndsOk.ext{K:Kx}{np:Nat}(h:EndsOk K np α H De D)(x:Ext np α H α1 H1):EndsOk K np α1 H1 De D where
 nx:=λb m a c k n R y=>h.nx b m a c k n R (x.trans y)
 rt:=λr b m a v c k n R rr y=>h.rt r b m a v c k n R (rr.ext x) (x.trans y)
 bk:=λb m a c k n R y=>h.bk b m a c k n R (x.trans y)
 ct:=λb m a c k n R y=>h.ct b m a c k n R (x.trans y)
noncomputable def tMS(K:Kx)(w:WS):TS:=λD c H=>∃a m b,Rel K a m c H/\w b m/\EndsOk K m.np a H b D
noncomputable abbrev MS(X:Cx)(st:Stmt)(w:WS):Prop:=PS X st (tMS X.kx w)
noncomputable abbrev MSs(X:Cx)(st:List Stmt)(w:WS):Prop:=PSs X st (tMS X.kx w)
section
variable {X:Cx}{a b c e:Expr}{es:List Expr}{d f g i:WE}{pos:Pos}{st:Stmt}{rest:List Stmt}{w u:WS}
noncomputable abbrev Lh:WS:=λD m=>D.nx m
noncomputable abbrev wSeq(w u:WS):WS:=λD m=>w {D with nx:=λh=>u D h } m
theorem JG:MSs X [] Lh:=(Ja).wk<|by intro D h H ⟨l,m,n,R,j,k⟩;exact k.nx l m h H j rfl R (.of R (Frm.refl _ _))
theorem Cw(l:MS X st w)(j:MSs X rest u):MSs X (st::rest) (wSeq w u):=(DB l j).wk<|by intro D x H ⟨o,m,r,p,t,k⟩;exact
 ⟨o,m,_,p,t,⟨λh v s z q n R y=>⟨h,v,r,R,q,by rw[n];exact k.ext y⟩,k.rt,k.bk,k.ct⟩⟩
theorem IU(j:MS X st w):MSs X [st] w:=(Jn j).wk λD k H h=>h
end
section
variable {X:Cx}{a b c e:Expr}{es:List Expr}{wa wb wc we:WE}{ws:WA}{wt:WT}{pos:Pos}{st:Stmt}{rest body body2:List Stmt}{w u:WS}
noncomputable abbrev wRet(we:WE):WS:=λD m=>we m λr d=>D.rt r d
theorem L9(i:ME X e we):MS X (.Return (some e) pos) (wRet we):=(Kq i).wk<|by intro D f H ⟨d,m,o,g,j,k⟩;exact
 ⟨d,m,_,g,j,λr l v h q n R rr F=>k.rt r d l f v h q n R rr (.of R F)⟩
noncomputable abbrev OM(we:WE):WS:=λD m=>we m λ_ d=>D.nx d
theorem Gi(i:ME X e we)(hs:abQ e none pos.line X.env=pure false:=by rfl):MS X (.Expr e pos) (OM we):=(IX i hs).wk<|by intro D f H ⟨d,m,o,g,j,k⟩;exact
 ⟨d,m,_,g,j,λr l v h q n R rr F=>k.nx d l f h q n R (.of R F)⟩
noncomputable abbrev wIfS(t:WT)(w u:WS):WS:=λD m=>t m λc d=>if c=true then w D d else u D d
theorem Sk(s:MT X t wt)(j:MSs X body w)(i:MSs X body2 u):MS X (.If t body body2 pos) (wIfS wt w u):=(Qu s j i).wk<|by
 intro D v H ⟨d,m,f,l,p,k⟩;refine⟨d,m,_,l,p,λr g o q n R F=>?_⟩;have h:EndsOk X.kx g.np d o f D:=by rw[n];exact k.ext (.of R F)
 cases r with
 |true=>rw[if_pos rfl]at q;exact iteT ⟨d,g,f,R,q,h⟩
 |false=>rw[if_neg aax]at q;exact iteF ⟨d,g,f,R,q,h⟩
noncomputable def Fy:WS:=λ_ _=>False
theorem Bu:MS X st Fy:=(CG).wk<|by intro D d H ⟨g,m,f,R,h,k⟩;exact h
noncomputable def MSt.setV(m:MSt)(i:Nat)(r:R):MSt:={m with vs:=m.vs.set i (some r)}
noncomputable def RenR(f:List Nat)(o:Option (Option R)):R->Prop
 | .imm d=>o=some (some (.imm d))
 | .obj k=>∃j,f[k]?=some j/\o=some (some (.obj j))
 | .at k p=>∃j,f[k]?=some j/\o=some (some (.at j p))
 | .new _=>False
 | .newT _=>False
structure Ren(ρ:List Nat)(m m2:MSt):Prop where
 nd:ρ.Nodup
 lt:∀k∈ρ,k<m.os.length
 pre:ρ.take m.np=aaw m.np
 npl:m.np≤ρ.length
 os:m2.os=ρ.map λk=>m.os.getD k []
 np:m2.np=m.np
 vl:m2.vs.length=m.vs.length
 vs:∀(j:Nat) (r:R),m2.vs[j]?=some (some r)->RenR ρ m.vs[j]? r
noncomputable def upR(D:MSt->Prop)(m:MSt):Prop:=D m\/∃d m2,Ren d m m2/\D m2
noncomputable def pq(i:Nat)(D:MSt->Prop)(m:MSt):R->Prop
 | .imm d=>upR D (m.setV i (.imm d))
 | .obj k=>upR D (m.setV i (.obj k))
 | .at k p=>upR D (m.setV i (.at k p))
 | .new ds=>upR D {vs:=m.vs.set i (some (.obj m.os.length)),os:=m.os++[ds],np:=m.np} \/
   ∃k,m.vs[i]?=some (some (.obj k))/\m.np≤k/\(∀j:Nat,j≠i->m.vs[j]?≠some (some (.obj k)))/\D {m with os:=m.os.set k ds}
 | .newT t=>upR D {vs:=m.vs.set i (some (.at m.os.length [])),os:=m.os++[[t]],np:=m.np}
theorem gf{d:Al}{n:Nat}(g:d.length=n):∀{f:List Nat},(∀k∈f,k<n)->abJ (λ(k:Nat) (ao:Ao)=>d[k]?=some ao) f (f.map λk=>d.getD k (.L 0))
 |[],_=>.nil
 | k::f,h=>.cons (by
   have i:k<d.length:=by rw[g];exact h k Io
   show d[k]?=some (d.getD k _);rw[Mt,iO i];rfl) (gf g λj l=>h j (Ge _ l))
theorem Je{K:Kx}{m m2:MSt}{g:List Nat}(R:Rel K α m σ H)(N:Ren g m m2):∃t,Rel K t m2 σ H/\Ext m.np α H t H:=by
 have B:=gf R.len N.lt;have get:∀(k:Nat) (f:Ao),(g.map λk=>α.getD k (.L 0))[k]?=some f->∃j:Nat,g[k]?=some j/\α[j]?=some f:=λk f z=>by
  let⟨j,L,I⟩:=Paired.get2 B z;exact⟨j,L,I⟩
 have n:∀(k j:Nat) (f:Ao),g[k]?=some j->α[j]?=some f->(g.map λk=>α.getD k (.L 0))[k]?=some f:=λk j f D A=>by
  let⟨J,O,G⟩:=Paired.get' B D;rw[A]at G;cases G;exact O
 have s:(g.map λk=>α.getD k (.L 0)).take m.np=α.take m.np:=by
  apply abD;intro l;rw[aaP,aaP]
  by_cases i:l<m.np
  .rw[if_pos i,if_pos i];have:g[l]?=some l:=by
    have e:=congrArg (·[l]?) N.pre;simp only[aaP,if_pos i]at e;rw[e,aca i]
   have y:l<α.length:=aan i R.npl;rw[n l l α[l] this (iO y),iO y]
  .rw[if_neg i,if_neg i]
 have ext:Ext m.np α H (g.map λk=>α.getD k (.L 0)) H:=⟨s,Frm.refl _ _,λa ha=>by
  let⟨k,f,S,U⟩:=ig ha;let⟨j,_,M⟩:=get k f S;exact .inl (ju M U),λa ha=>by
  let⟨o,q,_⟩:=R.mem ha;exact⟨_,q⟩⟩
 refine⟨g.map λk=>α.getD k (.L 0),⟨f7 R.nd N.nd B,?_,λk f ds D A=>?_,?_,λj r z=>?_,?_,by rw[N.np];exact R.ebl,R.ebx.trans (ext.less R.ebl)⟩,ext⟩
 .rw[N.os,gE,gE]
 .obtain⟨j,q,qa⟩:=get k f D;rw[N.os,GE,q]at A;have P:j<m.os.length:=N.lt j (oR q);have C:m.os.getD j []=ds:=aal A;refine R.own j f ds qa ?_;rw[<-C,Mt,iO P];rfl
 .rw[N.vl];exact R.vlen
 .have h:=N.vs j r z
  cases r with
  |imm d=>exact R.var j (.imm d) h
  |new _=>exact h.elim
  |newT _=>exact h.elim
  |obj k=>
   let⟨x,q,h⟩:=h;let⟨v,F,a,E,e⟩:=R.var j (.obj x) h;exact⟨v,F,a,n k x _ q E,e⟩
  | «at» k p=>
   let⟨x,q,h⟩:=h;let⟨v,F,Q,a,E,T,e⟩:=R.var j (.at x p) h;exact⟨v,F,Q,a,n k x _ q E,T,e⟩
 .rw[N.np,gE];exact N.npl
noncomputable abbrev wSet(i:Nat)(we:WE):WS:=λD m=>we m λr d=>pq i D.nx d r
theorem cx{K:Kx}{m:MSt}(R:Rel K α m σ H)(h:RelS K α H r v):Rel K α (m.setV i r) (σ.set i (some v)) H:=by
 refine⟨R.nd,R.len,R.own,?_,λj g e=>?_,R.npl,R.ebl,R.ebx⟩
 .show(σ.set i _).length=(m.vs.set i _).length;rw[abj,abj];exact R.vlen
 .have e':(m.vs.set i (some r))[j]?=some _:=e
  by_cases f:i=j
  .subst f
   by_cases d:i<m.vs.length
   .rw[aaI d]at e';cases e';exact⟨v,aaI (by rw[R.vlen];exact d),h⟩
   .simp_all
  .rw[aaC f]at e'⊢;exact R.var j g e'
theorem oW{K:Kx}{m:MSt}(R:Rel K α m σ H)(E:∃t f,Rel K α t f H0)(F:Frm α H0 H)(nd:ao.ads.Nodup)(C:∀b∈ao.ads,H0 b=none)(g:OwnAt K H ao ds) :
  Rel K (α++[ao]) {m with os:=m.os++[ds]} σ H/\∀np,np≤α.length->Ext np α H0 (α++[ao]) H:=by
 let⟨t,f,n⟩:=E;have s:∀b∈ao.ads,b∉ads α:=λb hb=>n.out (C b hb);have one:ads [ao]=ao.ads:=by simp[ads]
 have ext:∀np,np≤α.length->Ext np α H0 (α++[ao]) H:=λnp r=>⟨by rw[List.take_append_of_le_length r],F,λa ha=>by
  rw[i5,one]at ha;rcases aaO.mp ha with z|z
  .exact .inl z
  .exact .inr (C a z),λa ha=>by
  let⟨o,q,_⟩:=R.mem ha;exact⟨_,q⟩⟩
 refine⟨⟨?_,by simp[R.len],λk a es i I=>?_,R.vlen,λj B z=>?_,by have:=R.npl;show m.np≤(α++[ao]).length;rw[aaj];omega,R.ebl,n.ebx.trans (ext _ ?_)⟩,ext⟩
 .rw[i5,one];exact ahD.mpr ⟨R.nd,nd,λx G y J e=>s y J (e▸G)⟩
 .have z2':(m.os++[ds])[k]?=some es:=I
  by_cases A:k<α.length
  .rw[aaz A]at i;rw[aaz (by rw[<-R.len];exact A)]at z2';exact R.own k a es i z2'
  .rw[aay (by omega)]at i;rw[aay (by rw[<-R.len];omega)]at z2';have h:k-α.length=0:=by
    have:=(DL.mp i).1;simp at this;omega
   rw[h]at i;rw[<-R.len,h]at z2'
   simp_all
 .obtain⟨v,ev,rv⟩:=R.var j B z;refine⟨v,ev,?_⟩
  cases B with
  |imm d=>exact rv
  |new _=>exact rv
  |newT _=>exact rv
  |obj k=>
   let⟨a,l,e⟩:=rv;exact⟨a,by rw[aaz (DL.mp l).1];exact l,e⟩
  | «at» k p=>
   let⟨D,a,l,e⟩:=rv;exact⟨D,a,by rw[aaz (DL.mp l).1];exact l,e⟩
 .exact aak R.ebl R.npl
theorem tq{K:Kx}{m:MSt}{Q:St->Hp->Prop}{np:Nat}(f:Rel K α m σ H)(n:m.np=np)(F:Frm α H0 H)(h:RelR K α H0 H r v)(q:pq i P m r)
  (k:∀A D s C,P D->D.np=np->Rel K A D s C->Ext np α H0 A C->Q s C) (R0:∃m0 L,Rel K α m0 L H0):Q (σ.set i (some v)) H:=by
 have O:∀A D s C,upR P D->D.np=np->Rel K A D s C->Ext np α H0 A C->Q s C:=λA D s C q n R x=>by
  rcases q with q|⟨ρ,m2,N,q⟩
  .exact k A D s C q n R x
  .obtain⟨α2,R2,x2⟩:=Je R N;rw[n]at x2;exact k α2 m2 s C q (N.np.trans n) R2 (x.trans x2)
 have E:np≤α.length:=by rw[<-n];exact f.npl
 cases r with
 |imm d=>exact O α _ _ H q n (cx f (r:=.imm d) h) (.of (cx (i:=i) f (r:=.imm d) h) F)
 |obj j=>exact O α _ _ H q n (cx f (r:=.obj j) h) (.of (cx (i:=i) f (r:=.obj j) h) F)
 | «at» j p=>exact O α _ _ H q n (cx f (r:=.at j p) h) (.of (cx (i:=i) f (r:=.at j p) h) F)
 |newT t=>
  let⟨M,p,rfl,J,nd,S,g⟩:=h;let⟨base,ext⟩:=oW f R0 F (ao:=.T M) nd S g;exact O (α++[.T M]) _ _ H q n (cx base (r:=.at m.os.length []) ⟨M,p,by rw[aay (by rw[f.len];exact Ad _),<-f.len];simp,J,rfl⟩) (ext np E)
 | new ds=>
  let⟨p,xs,rfl,S,hp,g⟩:=h;have R0':=R0;let⟨m0,L,V⟩:=R0';have T:p∉ads α:=V.out S;rcases q with q|⟨j,e1,e2,e3,q⟩
  .
   let⟨base,ext⟩:=oW f R0 F (ao:=.L p) (by simp[Ao.ads]) (λb hb=>by cases aab.mp hb;exact S) ⟨xs,hp,g⟩;exact O (α++[.L p]) _ _ H q n (cx base (r:=.obj m.os.length) ⟨p,by rw[aay (by rw[f.len];exact Ad _),<-f.len];simp,rfl⟩) (ext np E)
  .
   let⟨aj,U⟩:∃aj,α[j]?=some (.L aj):=by
    let⟨v,_,a,I,_⟩:=f.var i _ e1;exact⟨a,I⟩
   have Y:j<α.length:=(DL.mp U).1;have hi:i<m.vs.length:=(DL.mp e1).1;have ndS:(ads (α.set j (.L p))).Nodup:=by
    have z:=(fH α).mp f.nd;rw[fH];refine⟨λao ha=>?_,aaU.mpr λi1 i2 h1 Z hlt a ha b hb e=>?_⟩
    .rcases afG ha with y|y
     .exact z.1 ao y
     .subst y;simp[Ao.ads]
    .subst e;rw[abj]at h1 Z;have mem:∀(l:Nat) (B:l<α.length),a∈(α[l]).ads->a∈ads α:=λl B h=>ju (iO B) h
     by_cases G:j=i1
     .subst G;rw[agC]at ha;rw[adP (by exact aaS ‹_›)]at hb
      cases aab.mp ha
      exact T (mem i2 Z hb)
     .rw[adP G]at ha
      by_cases c2:j=i2
      .subst c2;rw[agC]at hb
       cases aab.mp hb
       exact T (mem i1 h1 ha)
      .rw[adP c2]at hb;exact gl f.nd (iO h1) (iO Z) (aaS hlt) ha hb
   have ext:Ext np α H0 (α.set j (.L p)) H:=by
    refine⟨?_,F,λa ha=>?_,λa ha=>?_⟩
    .apply abD;intro l;rw[aaP,aaP]
     by_cases B:l<np
     .rw[if_pos B,if_pos B,aaC (by omega)]
     .rw[if_neg B,if_neg B]
    .obtain⟨l,ao,J,hm⟩:=ig ha
     by_cases G:j=l
     .subst G;rw[aaI Y]at J;cases J
      cases aab.mp hm
      exact .inr S
     .rw[aaC G]at J;exact .inl (ju J hm)
    .obtain⟨o,q,_⟩:=f.mem ha;exact⟨_,q⟩
   have Rl':Rel K (α.set j (.L p)) {m with os:=m.os.set j ds} (σ.set i (some (.ref p))) H:=by
    refine⟨ndS,by simp[f.len],λk a es W z2=>?_,by rw[abj];exact f.vlen,λl r' z=>?_,by rw[abj];exact f.npl,f.ebl,V.ebx.trans (ext.less (by have:=f.ebl;omega))⟩
    .have z2':(m.os.set j ds)[k]?=some es:=z2
     by_cases G:j=k
     .subst G;rw[aaI Y]at W;rw[aaI (by rw[<-f.len];exact Y)]at z2'
      cases W;cases z2'
      exact⟨xs,hp,g⟩
     .rw[aaC G]at W z2';exact f.own k a es W z2'
    .have z':m.vs[l]?=some (some r'):=z
     by_cases B:i=l
     .subst B;rw[e1]at z';cases z';exact⟨.ref p,aaI (by rw[f.vlen];exact hi),p,aaI Y,rfl⟩
     .obtain⟨v,ev,rv⟩:=f.var l r' z';refine⟨v,by rw[aaC B];exact ev,?_⟩
      cases r' with
      |imm d=>exact rv
      |new _=>exact rv
      |newT _=>exact rv
      |obj k=>
       let⟨a,I,e⟩:=rv;refine⟨a,?_,e⟩;rw[aaC]
       .exact I
       .rintro rfl;exact e3 l (abf B) z'
      | «at» k p'=>
       let⟨M,a,I,e⟩:=rv;refine⟨M,a,?_,e⟩;rw[aaC]
       .exact I
       .rintro rfl;rw[U]at I;cases I
   exact k (α.set j (.L p)) _ _ H q n Rl' ext
theorem LU(f:X.N.Nodup)(hi:X.N[i]?=some x)(o:Loc X.env.scope x)(j:ME X e we)(hs:abQ e (some (.Name x pos')) pos.line X.env=pure false:=by rfl)(h:X.fn x=true\/X.env.scope.names.lookup x=some .local:=by first|exact .inl rfl|exact .inr rfl|assumption) :
  MS X (.Assign [.Name x pos'] e pos) (wSet i we):=(JW f hi o j hs h).wk<|by intro D p H ⟨g,m,t,d,l,k⟩;exact
 ⟨g,m,_,d,l,λr y v s q n R rr F=>tq R n F rr q k.nx ⟨m,p,d⟩⟩
noncomputable abbrev WG:=dL->MSt->(MSt->Prop)->Prop
noncomputable abbrev WGs:=List dL->MSt->(MSt->Prop)->Prop
noncomputable def tMG(K:Kx)(g:WG):TG:=λv k H Q=>∃i m d j,Rel K i m k H/\Den K H d v/\g d m j/\∀h f,j h->h.np=m.np->Rel K i h f H->Q f H
noncomputable def tMGs(K:Kx)(g:WGs):TGs:=λvs j H Q=>∃h m ds i,Rel K h m j H/\DenAll K H ds vs/\g ds m i/\∀f d,i f->f.np=m.np->Rel K h f d H->Q d H
theorem PG.wk{X:Cx}{e:Expr}{t t':TG}(h:PG X e t)(k:∀v d H Q,t' v d H Q->t v d H Q):PG X e t':=λp s d H v u Q I r q=>h p s d H v u Q I r (k _ _ _ _ q)
theorem PGs.wk{X:Cx}{e:List Expr}{t t':TGs}(h:PGs X e t)(k:∀v d H Q,t' v d H Q->t v d H Q):PGs X e t':=λp s d H v u Q I r q=>h p s d H v u Q I r (k _ _ _ _ q)
noncomputable abbrev MG(X:Cx)(e:Expr)(g:WG):Prop:=PG X e (tMG X.kx g)
noncomputable abbrev MGs(X:Cx)(es:List Expr)(g:WGs):Prop:=PGs X es (tMGs X.kx g)
noncomputable abbrev gM(i:Nat):WG:=λd m K=>K (m.setV i (.imm d))
noncomputable def FU:WGs:=λds m K=>ds=[]/\K m
noncomputable abbrev Fu(g:WG)(h:WGs):WGs:=λds m K=>match ds with|d::r=>g d m λf=>h r f K|[]=>False
noncomputable def CU(n:Nat)(g:WGs):WG:=λd m K=>match d with| .tuple ds=>ds.length=n/\g ds m K|_=>False
theorem Ij(j:X.N.Nodup)(hi:X.N[i]?=some x)(g:Loc X.env.scope x)(h:X.fn x=true\/X.env.scope.names.lookup x=some .local:=by first|exact .inl rfl|exact .inr rfl|assumption):MG X (.Name x pos) (gM i):=(Ie j hi g h).wk λv l H Q ⟨k,m,d,K,R,hd,f,fin⟩=>
 fin _ _ f rfl (cx R hd)
theorem FY:MGs X [] FU:=(Jp).wk<|by
 intro v f H Q ⟨g,m,d,K,R,hd,h,fin⟩;let⟨rfl,h⟩:=h;exact⟨hd,fin m f h rfl R⟩
theorem Bo{e:Expr}{es:List Expr}(p:MG X e g)(l:MGs X es gs)
  (hs:(abG (e::es) X.env).map (·.2)=ad5 e X.env::(abG es X.env).map (·.2):=by rfl):MGs X (e::es) (Fu g gs):=(Cu p l hs).wk<|by
 intro v B H Q ⟨i,m,ds,K,o,hd,j,fin⟩
 cases ds with
 |nil=>exact j.elim
 |cons d r=>
  let⟨x,t,rfl,q,A⟩:=hd;exact⟨x,t,rfl,i,m,d,_,o,q,j,λy s k n R=>⟨i,y,r,_,R,A,k,λm2 f z n2 h=>fin m2 f z (n2.trans n) h⟩⟩
theorem Nr{es:List Expr}{k:Nat}(h:MGs X es gs)(l:X.calm=true:=by rfl)
  (p:(abG es X.env).length=n:=by rfl) (j:(abG es X.env).findIdx? (·.1)=none:=by rfl):MG X (.Tuple es k pos) (CU n gs):=(O8 l h p j).wk<|by
 intro v q H Q ⟨o,m,d,K,R,hd,i,fin⟩
 cases d with
 |tuple ds=>
  let⟨a,x,e,f,g⟩:=hd;exact⟨a,x,e,f,g.length.symm.trans i.1,o,m,ds,K,R,g,i.2,fin⟩
 |none=>exact i.elim
 |bool _=>exact i.elim
 |int _=>exact i.elim
 |str _=>exact i.elim
 |list _=>exact i.elim
 |dict _=>exact i.elim
noncomputable abbrev i7(P:dL->Prop):R->Prop
 | .imm d=>P d
 |_=>False
theorem fE{K:Kx}{P:dL->Prop}(rr:RelR K α Hb H r v)(h:i7 P r):∃d,r = .imm d/\Den K H d v/\P d:=by
 cases r with
 |imm d=>exact⟨d,rfl,rr,h⟩
 |obj _=>exact h.elim
 |new _=>exact h.elim
 | «at» _ _=>exact h.elim
 |newT _=>exact h.elim
noncomputable abbrev wAsg(we:WE)(g:WG):WS:=λD m=>we m λr f=>i7 (λd=>g d f D.nx) r
theorem JZ(x:ME X e we)(s:MG X tg g)(hs:ac2 [tg] e pos.line X.env=pure false:=by rfl)(h:ac3 [tg] e X.env=pure none:=by rfl)
  (p:(abG [tg] X.env).map (·.2)=[ad5 tg X.env]:=by rfl):MS X (.Assign [tg] e pos) (wAsg we g):=(E8 x s hs h p).wk<|by
 intro D B H ⟨j,m,A,l,h,k⟩;refine⟨j,m,_,l,h,λr y v o q n i rr F=>?_⟩;let⟨d,z,hd,q⟩:=fE rr q;exact⟨j,y,d,_,i,hd,q,λm2 f t n2 R=>k.nx j m2 f o t (n2.trans n) R (.of R F)⟩
noncomputable def wPar(i j:Nat)(ws:WA):WS:=λD m=>ws m λrs d=>match rs with|[.imm d1,.imm d2]=>D.nx ((d.setV i (.imm d1)).setV j (.imm d2))|_=>False
theorem KW{p f pt:Pos}{kt k2 pt2}(C:X.N.Nodup)(hi:X.N[i]?=some x)(I:X.N[j]?=some y)(h:i≠j)
  (t:X.env.scope.names.lookup x=some .local) (J:X.env.scope.names.lookup y=some .local) (ha:MA X [a,b] ws)
  (l:ac3 [.Tuple [.Name x p,.Name y f] kt pt] (.Tuple [a,b] k2 pt2) X.env=pure (some [x,y])) (E:X.calm=true:=by rfl)
  (hs:ac2 [.Tuple [.Name x p,.Name y f] kt pt] (.Tuple [a,b] k2 pt2) pos.line X.env=pure false:=by rfl) :
  MS X (.Assign [.Tuple [.Name x p,.Name y f] kt pt] (.Tuple [a,b] k2 pt2) pos) (wPar i j ws):=(J7 E C hi I h t J ha l hs).wk<|by
 intro D K H ⟨o,m,B,v,l,k⟩;refine⟨o,m,_,v,l,λrs G vs A q n R rr F=>?_⟩;let⟨g,d,z,q⟩:∃g d,rs=[.imm g,.imm d]/\B.nx ((G.setV i (.imm g)).setV j (.imm d)):=by
  split at q
  .exact⟨_,_,rfl,q⟩
  .exact q.elim
 subst z
 cases rr with
 |cons s rr=>
  cases rr with
  |cons r rr=>
  cases rr;exact⟨_,_,rfl,k.nx o _ _ A q n (cx (cx R s) r) (.of R F)⟩
end
structure Src where
 ds:List dL
 own:Option Nat
structure Wks(K:Kd)(J:It)(ds:List dL)(C:Hp->Prop):Prop where
 stop:∀H,C H->J.stop ds.length H
 go:∀i H,i<ds.length->C H->J.go i H
 yld:∀i H x H',i<ds.length->C H->J.yld i H x H'->(∀b o,H b=some o->H' b=some o)/\∃d,ds[i]?=some d/\Den K H' d x
noncomputable def tJ(K:Kd)(d:Al)(H:Hp)(s:Src)(J:It):Prop:=
 match s.own with
 |none=>∃C:Hp->Prop,Wks K J s.ds C/\C H/\∀b c,C b->Pers b c->C c
 |some k=>∃a,d[k]?=some (.L a)/\Wks K J s.ds λH=>∃x,H a=some (.lst x)/\DenAll K H s.ds x
noncomputable abbrev WI:=MSt->(Src->MSt->Prop)->Prop
noncomputable def tMI(K:Kx)(w:WI):TI:=λe H R=>∃a m d,Rel K a m e H/\w m d/\∀s c J b,d s c->c.np=m.np->Rel K a c e b->Frm a H b->tJ K a b s J->R J b
theorem PI.wk{t t':TI}(h:PI X tg e t)(k:∀a H Q,t' a H Q->t a H Q):PI X tg e t':=λp s a H Q I q=>h p s a H Q I (k _ _ _ q)
noncomputable abbrev MI(X:Cx)(tg e:Expr)(w:WI):Prop:=PI X tg e (tMI X.kx w)
section
variable {X:Cx}{tg a b c e B:Expr}{es:List Expr}{N O Q E:WE}{G:WA}{M:WT}{pos:Pos}{st:Stmt}{rest A L:List Stmt}{w u:WS}
noncomputable def iSeq(K:LD)(tl:TE):TI:=λg H R=>tl g H λx d=>∃a,x = .ref a/\(((∃f,SqL K d a f)/\R (Itl K a) d)\/((∃f,SqT K d a f)/\R (Itt K a) d))
theorem NW{l:Expr}{tl:TE}(j:PE X l tl):PI X tg l (iSeq X.K tl):=by
 intro f s m H R I h;refine thn (j f s m H _ I h) λv s1 ⟨x,i,d,r1,k⟩=>?_;let⟨a,e,q⟩:=k;subst e;cases r1;rcases q with⟨⟨n,g⟩,q⟩|⟨⟨n,g⟩,q⟩
 .obtain⟨its,rv,p,hz⟩:=d.list g;refine wpAny_pyIter_list p.isList ?_;refine⟨s1.heap.objs.size,[s1.heap.objs.size],_,_,i,rfl,d.kept (t':=s1.toks) λb o e=>AD _ e,yb a _,⟨_,aaa _ rfl,rfl,rfl⟩,λb hb=>?_,q⟩;have e:=by simpa using hb
  subst e;exact d.fpOk (Ad _) (d.hok.fresh (Ad _))
 .obtain⟨its,rv,p,hz⟩:=d.tuple g;refine wpAny_pyIter_tuple (p) ?_;refine⟨s1.heap.objs.size,[s1.heap.objs.size],_,_,i,rfl,d.kept (t':=s1.toks) λb o e=>AD _ e,v9 a _,⟨_,aaa _ rfl,rfl,rfl⟩,λb hb=>?_,q⟩;have e:=by simpa using hb
  subst e;exact d.fpOk (Ad _) (d.hok.fresh (Ad _))
noncomputable def srcR(m:MSt)(K:Src->MSt->Prop):R->Prop
 | .imm (.list ds)=>K ⟨ds,none⟩ m
 | .imm (.tuple ds)=>K ⟨ds,none⟩ m
 | .obj k=>∃ds,m.os[k]?=some ds/\K ⟨ds,some k⟩ m
 |_=>False
noncomputable abbrev NU(E:WE):WI:=λm K=>E m λr d=>srcR d K r
theorem wks_list{a:Addr}:Wks K (Itl K a) ds λH=>∃xs,SqL K H a xs/\DenAll K H ds xs where
 stop:=λH ⟨xs,q,g⟩=>⟨xs,q,by rw[g.length];exact Ad _⟩
 go:=λi H h ⟨xs,q,g⟩=>⟨xs,xs[i]'(by rw[<-g.length];exact h),q,iO _⟩
 yld:=λi H x k h ⟨xs,q,g⟩ y=>by
  let⟨e,y⟩:=y;subst e;let⟨d,j,f⟩:=g.get2 (y xs q);exact⟨λ_ _ z=>z,d,j,f⟩
theorem GV{a:Addr}:Wks K (Itt K a) ds λH=>∃xs,SqT K H a xs/\DenAll K H ds xs where
 stop:=λH ⟨xs,q,g⟩=>⟨xs,q,by rw[g.length];exact Ad _⟩
 go:=λi H h ⟨xs,q,g⟩=>⟨xs,xs[i]'(by rw[<-g.length];exact h),q,iO _⟩
 yld:=λi H x k h ⟨xs,q,g⟩ y=>by
  let⟨e,y⟩:=y;subst e;let⟨d,j,f⟩:=g.get2 (y xs q);exact⟨λ_ _ z=>z,d,j,f⟩
theorem Wks.imp{C f:Hp->Prop}(h:Wks K J ds C)(k:∀H,f H->C H):Wks K J ds f:=⟨λH c=>h.stop H (k H c),λi H d c=>h.go i H d (k H c),λi H x g d c=>h.yld i H x g d (k H c)⟩
theorem OZ(I:ME X e E):MI X tg e (NU E):=(NW (tg:=tg) I).wk<|by
 intro P H K ⟨C,m,S,D,J,fin⟩;refine⟨C,m,_,D,J,λr o v l k n R rr F=>?_⟩
 cases r with
 |new _=>exact k.elim
 | «at» _ _=>exact k.elim
 |newT _=>exact k.elim
 |obj j=>
  let⟨ds,y,k⟩:=k;let⟨p,s,rfl⟩:=rr;let⟨x,q,g⟩:=R.own j _ ds s y;exact⟨p,rfl,.inl ⟨⟨x,SqL.of q⟩,fin _ o _ l k n R F ⟨p,s,wks_list.imp<|by intro H ⟨x,q,g⟩;exact⟨x,SqL.of q,g⟩⟩⟩⟩
 | imm d=>
  cases d with
  |list ds=>
   have h:=rr;simp only[Den]at h;let⟨p,x,rfl,f,g⟩:=h;refine⟨p,rfl,.inl ⟨⟨x,f.sq⟩,fin _ o _ l k n R F ⟨λH=>∃x,FzL X.kx H p x/\DenAll X.kx H ds x,wks_list.imp λH ⟨x,q,g⟩=>⟨x,q.sq,g⟩,⟨x,f,g⟩,λt z ⟨x,q,g⟩ i=>⟨x,q.mono i,g.mono i⟩⟩⟩⟩
  |tuple ds=>
   have h:=rr;simp only[Den]at h;let⟨p,x,rfl,f,g⟩:=h;refine⟨p,rfl,.inr ⟨⟨x,f⟩,fin _ o _ l k n R F ⟨λH=>∃x,SqT X.kx H p x/\DenAll X.kx H ds x,GV,⟨x,f,g⟩,λt z ⟨x,q,g⟩ i=>⟨x,q.mono i,g.mono i⟩⟩⟩⟩
  |none=>exact k.elim
  |bool _=>exact k.elim
  |int _=>exact k.elim
  |str _=>exact k.elim
  |dict _=>exact k.elim
noncomputable def iw(lo:Int)(n:Nat):List dL:=(aaw n).map λ(i:Nat)=>abi (lo+(i:Int))
def aC(lo:Int)(n:Nat):(iw lo n).length=n:=by simp[iw]
def ja{lo:Int}(h:i<n):(iw lo n)[i]?=some (.int (lo+(i:Int))):=by simp[iw,h]
theorem Ac{lo:Int}:Wks K (Itr lo n) (iw lo n) λ_=>True where
 stop:=λH _=>by rw[aC];exact Ad _
 go:=λi H h _=>by rw[aC]at h;exact h
 yld:=λi H x d h _ y=>by
  rw[aC]at h;let⟨e,y⟩:=y;subst e y;exact⟨λ_ _ z=>z,_,ja h,tm _⟩
noncomputable abbrev FM(G:WA):WI:=λm K=>G m λrs d=>match rs with|[.imm (.int j)]=>-(2^62)≤j/\j<2^62/\K ⟨iw 0 j.toNat,none⟩ d|_=>False
def aM{i:Int}(h:Den K H (.int i) v):v = .int i:=by simpa[Den]
theorem yP(g:Gl X "range")(r:X.mg "range" = none)(ha:MA X [a] G)(hs:aac [a] X.env=[(false,eval a X.env)]:=by first|exact cy rfl|rfl):MI X tg (.Call (.Name "range" p) [a] [] pos) (FM G):=(wN g r ha hs).wk<|by
 intro y H x ⟨l,m,K,o,t,fin⟩;refine⟨l,m,_,o,t,λrs f vs d k n R rr F=>?_⟩;let⟨j,q,s,v,i⟩:∃j:Int,rs=[.imm (.int j)]/\-(2^62)≤j/\j<2^62/\K ⟨iw 0 j.toNat,none⟩ f:=by
  split at k
  .exact⟨_,rfl,k⟩
  .exact k.elim
 subst q
 cases rr with
 |cons h rr=>
  cases rr;have e:=aM (show Den X.kx d _ _ from h);subst e;exact⟨j,rfl,s,v,fin _ f _ d i n R F ⟨λ_=>True,Ac,trivial,λ_ _ _ _=>trivial⟩⟩
noncomputable def MSt.setN(m:MSt)(n:Nat):MSt:={m with np:=n}
noncomputable def Src.np(s:Src)(m:MSt):Nat:=match s.own with|none=>m.np|some k=>max m.np (k+1)
noncomputable def Src.ok(s:Src)(m:MSt):Prop:=match s.own with|none=>True|some k=>m.os[k]?=some s.ds
noncomputable def lw(s:Src)(g:WG)(w:WS):WS:=λD m1=>∃P:Nat->MSt->Prop,P 0 (m1.setN (s.np m1))/\
 (∀(i:Nat) (d:dL) (m:MSt),s.ds[i]?=some d->m.np=s.np m1->P i m->s.ok m/\g d m λm2=>w {nx:=P (i+1),ct:=P (i+1),bk:=λf=>D.nx (f.setN m1.np),rt:=λr f=>D.rt r (f.setN m1.np)} m2)/\
 ∀m,m.np=s.np m1->P s.ds.length m->s.ok m/\D.nx (m.setN m1.np)
noncomputable abbrev wFor(d:WI)(g:WG)(w:WS):WS:=λD m=>d m λs m1=>lw s g w D m1
def Rel.setN{K:Kx}{m:MSt}(R:Rel K α m σ H)(h:n≤α.length)(d:K.eb.np≤n):Rel K α (m.setN n) σ H:=⟨R.nd,R.len,R.own,R.vlen,R.var,h,d,R.ebx⟩
theorem rF{K:Kx}{s:Src}{w:WS}(Rl:Rel K α m1 σ H)(hJ:tJ K α H s J)(h:lw s g w De m1)(k:EndsOk K m1.np α H De D)
  (hb:∀f F m t De' D',f.take (s.np m1)=α.take (s.np m1)->F.np=s.np m1->Rel K f F m t->w De' F->EndsOk K F.np f t De' D'->tb D' m t):qY J (tMG K g) tb D σ H:=by
 let⟨P,p0,turn,fin⟩:=h;have npk:s.np m1≤α.length:=by
  unfold Src.np;unfold tJ at hJ
  cases e:s.own with
  |none=>exact Rl.npl
  |some j=>
   rw[e]at hJ;let⟨a,ea,_⟩:=hJ;have:=(DL.mp ea).1;have:=Rl.npl;show max m1.np (j+1)≤α.length;omega
 have S:m1.np≤s.np m1:=by
  unfold Src.np;split
  .exact Ad _
  .exact ae8 _ _
 let⟨C,wk,hC⟩:∃C:Hp->Prop,Wks K J s.ds C/\∀f F m t,Rel K f F m t->Ext (s.np m1) α H f t->s.ok F->C t:=by
  unfold tJ at hJ
  cases e:s.own with
  |none=>
   rw[e]at hJ;let⟨C,wk,c0,cm⟩:=hJ;exact⟨C,wk,λf F m t _ x _=>cm H t c0 (Rl.pers x.frm)⟩
  | some j=>
   rw[e]at hJ;let⟨a,ea,wk⟩:=hJ;refine⟨_,wk,λf F m t U x ok=>?_⟩;have hj:j<s.np m1:=by unfold Src.np;rw[e];show j<max _ _;omega
   have ea':f[j]?=some (.L a):=by
    have:=congrArg (λl=>l[j]?) x.pre;simp only[aaP,if_pos hj]at this;rw[this];exact ea
   unfold Src.ok at ok;rw[e]at ok;exact U.own j _ s.ds ea' ok
 have T:∀{f:Al}{F:MSt}{m:St}{t:Hp},Rel K f F m t->F.np=s.np m1->Ext (s.np m1) α H f t->Rel K f (F.setN m1.np) m t:=λU n x=>U.setN (by
  have:=U.npl;rw[n]at this;exact aak ‹_› ‹_›) Rl.ebl
 refine⟨λi n m t=>n=s.ds.length-i/\i≤s.ds.length/\∃f F,P i F/\F.np=s.np m1/\Rel K f F m t/\Ext (s.np m1) α H f t,⟨s.ds.length,by simp,act _,α,_,p0,rfl,Rl.setN npk (aak Rl.ebl S),.of Rl (Frm.refl _ _)⟩,?_⟩;intro i n m t ⟨rfl,hi,f,F,p,hn,U,x⟩
 by_cases Y:i<s.ds.length
 .have hd:s.ds[i]?=some s.ds[i]:=iO Y;let⟨ok,hg⟩:=turn i _ F hd hn p;have c:=hC f F m t U x ok;refine .inr ⟨wk.go i t Y c,λσ2 W=>∃α2 m2,P (i+1) m2/\m2.np=s.np m1/\Rel K α2 m2 σ2 W/\Ext (s.np m1) α H α2 W,λσ2 W h2=>⟨s.ds.length-(i+1),by omega,rfl,Y,h2⟩,λv W y=>?_⟩;let⟨Z,d,e1,e2⟩:=wk.yld i t v W Y c y;rw[hd]at e1;cases e1;have F2:Frm f t W:=λb o z _=>Z b o z;have R2:Rel K f F m W:=U.at (U.pers F2) (λb hb=>by
   let⟨ys,z,_⟩:=U.mem hb;rw[z];exact Z b _ z) F2
  have x2:Ext (s.np m1) α H f W:=x.trans (.of R2 F2);refine⟨f,F,_,_,R2,e2,hg,λm3 σ3 q3 n3 R3=>hb f m3 σ3 W _ _ x2.pre (n3.trans hn) R3 q3 ?_⟩;have I:m3.np=s.np m1:=n3.trans hn;have x3:Ext m3.np α H f W:=by rw[I];exact x2
  refine⟨λR m4 V H4 q4 n4 R4 x4=>⟨R,m4,q4,n4.trans I,R4,?_⟩,λr R m4 V v4 H4 q4 n4 R4 rr x4=>?_,λR m4 V H4 q4 n4 R4 x4=>?_,λR m4 V H4 q4 n4 R4 x4=>⟨R,m4,q4,n4.trans I,R4,?_⟩⟩
  .rw[<-I];exact x3.trans x4
  .have x5:Ext (s.np m1) α H R H4:=by rw[<-I];exact x3.trans x4
   exact k.rt r R (m4.setN m1.np) V v4 H4 q4 rfl (T R4 (n4.trans I) x5) (rr.ext x3) (x5.less S)
  .have x5:Ext (s.np m1) α H R H4:=by rw[<-I];exact x3.trans x4
   exact k.nx R (m4.setN m1.np) V H4 q4 rfl (T R4 (n4.trans I) x5) (x5.less S)
  .rw[<-I];exact x3.trans x4
 .have e:i=s.ds.length:=by omega
  subst e;let⟨ok,q⟩:=fin F hn p;exact .inl ⟨wk.stop t (hC f F m t U x ok),k.nx f (F.setN m1.np) m t q rfl (T U hn x) (x.less S)⟩
theorem J6{h:WI}(hi:MI X tg B h)(p:MG X tg g)(hb:MSs X A w)(hp:afX (model X.prog X.w) X.A X.env X.xe)(v:X.calm=true:=by rfl)
  (hs:∀x,aaL B X.env x=pure x:=by intro _;rfl):MS X (.For tg B A [] pos) (wFor h g w):=(N6 hp v hi p hb hs).wk<|by intro D S H ⟨y,m,K,l,z,k⟩;exact
 ⟨y,m,_,l,z,λs i J o q n R F j=>rF R j q (by rw[n];exact k.ext (.of R F)) λd i r o f P _ _ C t I=>⟨d,i,f,C,t,I⟩⟩
noncomputable def xl(t:WT)(w:WS):WS:=λD f=>∃P:Nat->MSt->Prop,(∃n,P n f)/\∀n m,m.np=f.np->P n m->t m λc g=>if c=true then w {D with nx:=λm2=>∃d,d<n/\P d m2,ct:=λm2=>∃d,d<n/\P d m2,bk:=D.nx} g else D.nx g
theorem AI(ht:MT X t M)(hb:MSs X A w)(hp:afX (model X.prog X.w) X.A X.env X.xe):MS X (.While t A [] pos) (xl M w):=(Bf hp ht hb).wk<|by
 intro D σ H ⟨I,m,De,K,⟨P,⟨S,p0⟩,s⟩,k⟩;refine⟨λn f i=>∃d g,P n g/\g.np=m.np/\Rel X.kx d g f i/\Ext m.np I H d i,⟨S,I,m,p0,rfl,K,.of K (Frm.refl _ _)⟩,?_⟩;intro n J H1 ⟨l,m1,Y,n1,W,V⟩;refine⟨l,m1,_,W,s n m1 n1 Y,λZ m2 T q n2 R2 U=>?_⟩;have x:=V.trans (.of R2 U);have p:m2.np=m.np:=n2.trans n1
 cases Z with
 |true=>
  refine iteT ⟨λC F=>∃h,h<n/\∃d g,P h g/\g.np=m.np/\Rel X.kx d g C F/\Ext m.np I H d F,by intro C F ⟨h,o,z⟩;exact⟨h,o,z⟩,l,m2,_,R2,q,?_⟩;rw[p];exact⟨λd g f i ⟨h,o,q⟩ j R y=>⟨h,o,d,g,q,j,R,x.trans y⟩,λr d g f v i q j R rr y=>k.rt r d g f v i q j R (rr.ext x) (x.trans y),λd g f i q j R y=>k.nx d g f i q j R (x.trans y),λd g f i ⟨h,o,q⟩ j R y=>⟨h,o,d,g,q,j,R,x.trans y⟩⟩
 |false=>
  exact iteF (k.nx l m2 J T q p R2 x)
end
section
variable {K:Kx}{f:Al}{m:MSt}{j:St}{H:Hp}
theorem Rel.setW(R:Rel K f m j H)(ha:f[q]?=some ao)(w:Pers H H')(F:∀b,b∉ao.ads->H' b=H b)(g:OwnAt K H' ao ds'):Rel K f {m with os:=m.os.set q ds' } j H'/\Frm f H H':=by
 have s:Frm f H H':=λb o e A=>by rw[F b λz=>A (ju ha z)];exact e
 have l:∀(k:Nat) (a:Ao) u,f[k]?=some a->(m.os.set q ds')[k]?=some u->OwnAt K H' a u:=λk a u x n=>by
  by_cases c:q=k
  .subst c;rw[aaI (by rw[<-R.len];exact(DL.mp ha).1)]at n
   grind
  .rw[aaC c]at n;exact(R.own k a u x n).mono w λb hb=>F b λz=>gl R.nd ha x c z hb
 refine⟨⟨R.nd,by simp[R.len],l,R.vlen,λi r h=>?_,R.npl,R.ebl,R.ebx.trans ⟨rfl,s,λ_ h=>.inl h,λa ha=>?_⟩⟩,s⟩
 .obtain⟨v,ev,rv⟩:=R.var i r h;refine⟨v,ev,?_⟩
  cases r with
  |imm d=>exact Den.mono w rv
  |obj k=>exact rv
  | «at» k p=>exact rv
  |new ds=>exact rv
  |newT t=>exact rv
 .obtain⟨k,ao,e1,hm⟩:=ig ha;have y:k<(m.os.set q ds').length:=by rw[abj,<-R.len];exact(DL.mp e1).1
  let⟨o,q,_⟩:=(l k ao _ e1 (iO y)).mem hm;exact⟨o,q⟩
theorem Rel.setO{x:List V}(R:Rel K f m j H)(ha:f[q]?=some (.L l))(h:H l=some (.lst xs))(g:DenAll K H ds' x):Rel K f {m with os:=m.os.set q ds' } j (upd H l (.lst x))/\Frm f H (upd H l (.lst x)):=by
 have p:Pers H (upd H l (.lst x)):=uC h;exact R.setW ha p (λb hb=>au λe=>hb (aab.mpr e)) ⟨x,ay,g.mono p⟩
end
noncomputable def vt(own:List Str)(ps:List Nat)(vs:List (Option R)):List (Option R):=own.map (λ_=>none)++ps.map λi=>(vs[i]?).join
noncomputable def ls(own:List Str)(ps:List Nat)(m:MSt):MSt:=⟨vt own ps m.vs,m.os++[[]],m.os.length+1⟩
noncomputable abbrev wIfT(tt:WT)(w:WS):WS:=λD m=>tt m λb a=>if b=true then w D a else D.nx a
noncomputable abbrev Gc(q:Nat)(w:WE):WS:=λD m=>w m λr a=>i7 (λd=>∃ds,a.os[q]?=some ds/\ds.length<aad/\D.nx {a with os:=a.os.set q (ds++[d])}) r
noncomputable abbrev pk(w:WI)(own:List Str)(ps:List Nat)(g:WG)(tt:WT)(b:WE):WE:=λm K=>w m λs m1=>
 lw s g (wIfT tt (Gc m1.os.length b)) {nx:=λa=>K (.new (a.os.getD m1.os.length [])) {m1 with os:=a.os.take m1.os.length},rt:=λ_ _=>False} (ls own ps m1)
noncomputable abbrev wj(c:WI)(own:List Str)(ps:List Nat)(g:WG)(tt:WT)(w:WI)(d:WG)(t:WT)(b:WE):WE:=λm K=>c m λs m1=>
 lw s g (wIfT tt λD m2=>w m2 λs2 e=>lw s2 d (wIfT t (Gc m1.os.length b)) D e) {nx:=λa=>K (.new (a.os.getD m1.os.length [])) {m1 with os:=a.os.take m1.os.length},rt:=λ_ _=>False} (ls own ps m1)
noncomputable abbrev yd:WT:=λm K=>K true m
section
variable {K:Kx}
theorem zO{w:WE}{m:MSt}(ha:α[q]?=some (.L l))(c:Rel K α m σ H)(h:Gc q w De m)(k:EndsOk K m.np α H De D):vJ l (tM K w) D σ H:=by
 refine⟨α,m,_,c,h,λr p v o a n R rr F=>?_⟩;let⟨d,j,hd,ds,f,e,a⟩:=fE rr a;let⟨x,b,g⟩:=R.own q _ ds ha f;let⟨R2,i⟩:=R.setO ha b (g.append (DenAll.cons hd DenAll.nil));exact⟨x,b,by rw[<-g.length];exact e,k.nx α _ σ _ a n R2 (.of R2 (F.trans i))⟩
theorem zj{tt:WT}{m:MSt}(d:Rel K α m σ H)(h:wIfT tt w De m)(k:EndsOk K m.np α H De D)
  (hb:∀a b,a.np=m.np->Rel K α a σ b->w De a->EndsOk K a.np α b De D->tb D σ b):tIfT (tMT K tt) tb D σ H:=by
 refine⟨α,m,_,d,h,λe a b q n R F=>?_⟩;have c:EndsOk K a.np α b De D:=by rw[n];exact k.ext (.of R F)
 cases e with
 |true=>rw[if_pos rfl]at q;exact iteT (hb a b n R q c)
 |false=>rw[if_neg aax]at q;exact iteF (c.nx α a σ b q rfl R (.of R (Frm.refl _ _)))
theorem zW{own:List Str}{ps:List Nat}{s:Src}{m:MSt}{Kc:R->MSt->Prop}(Rl:Rel K α m σ H)(n1:m1.np=m.np)(c:Rel K α m1 σ H1)(F1:Frm α H H1)(Y:tJ K α H1 s J)(L:H1 l=none)
  (h:lw s g w {nx:=λf=>Kc (.new (f.os.getD m1.os.length [])) {m1 with os:=f.os.take m1.os.length},rt:=λ_ _=>False} (ls own ps m1))
  (fin:∀r f v u,Kc r f->f.np=m.np->Rel K α f σ u->RelR K α H u r v->Frm α H u->Q v u)
  (hb:∀A f D u F Z,A[m1.os.length]?=some (.L l)->m1.os.length<f.np->Rel K A f D u->w F f->EndsOk K f.np A u F Z->tb Z D u) :
  qY J (tMG K g) tb {nx:=λ_ u=>Q (.ref l) u,rt:=λ_ _=>False} (gF own ps σ) (upd H1 l (.lst [])):=by
 have pα:l∉ads α:=c.out L;have pe:Pers H1 (upd H1 l (.lst [])):=bu (.inl L);have B:α.length=m1.os.length:=c.len;have V:(α++[.L l])[m1.os.length]?=some (.L l):=by rw[aay (by omega),<-B];simp
 have P:Rel K α m1 σ (upd H1 l (.lst [])):=c.lay L;let⟨Rm,extm⟩:=oW (ao:=.L l) (ds:=[]) P ⟨m1,σ,c⟩ (cz L) (by simp[Ao.ads]) (λb hb=>by cases aab.mp hb;exact L) ⟨[],ay,DenAll.nil⟩;have R0:Rel K (α++[.L l]) (ls own ps m1) (gF own ps σ) (upd H1 l (.lst [])):=by
  refine⟨Rm.nd,by simp[ls,B],Rm.own,by simp[gF,ls,vt],λi r z=>?_,by simp[ls,B],by have:=c.ebl;have:=c.npl;show K.eb.np≤m1.os.length+1;omega,Rm.ebx⟩;have E:(vt own ps m1.vs)[i]?=some (some r):=z;unfold vt at E
  by_cases hi:i<own.length
  .rw[aaz (by simpa using hi),GE]at E
   cases q:own[i]? with
   |none=>rw[q]at E;cases E
   |some y=>rw[q]at E;cases E
  .rw[aay (by simpa using hi),gE,GE]at E
   cases q:ps[i-own.length]? with
   |none=>rw[q]at E;cases E
   | some p=>
    rw[q]at E;have T:(m1.vs[p]?).join=some r:=aal E;have hv:m1.vs[p]?=some (some r):=by
     cases y:m1.vs[p]? with
     |none=>rw[y]at T;cases T
     |some y'=>rw[y]at T;cases y' with
      |none=>cases T
      |some y'=>cases T;rfl
    let⟨v,ev,N⟩:=Rm.var p r hv;refine⟨v,?_,N⟩;unfold gF;rw[aay (by simpa using hi),gE,GE,q];show some ((σ[p]?).join)=some (some v);rw[ev];rfl
 have hJ':tJ K (α++[.L l]) (upd H1 l (.lst [])) s J:=by
  unfold tJ at Y⊢
  cases e:s.own with
  |none=>
   rw[e]at Y;let⟨C,wk,c0,cm⟩:=Y;exact⟨C,wk,cm _ _ c0 pe,cm⟩
  |some j=>
   rw[e]at Y;let⟨a,ea,wk⟩:=Y;exact⟨a,by rw[aaz (DL.mp ea).1];exact ea,wk⟩
 have S:m1.os.length<s.np (ls own ps m1):=by
  unfold Src.np;split
  .exact ab1 _
  .exact aan (ab1 _) (ae8 _ _)
 refine rF R0 hJ' h ⟨λA f D u q n O x=>?_,λ_ _ _ _ _ _ z=>z.elim,λ_ _ _ _ z=>z.elim,λ_ _ _ _ z=>z.elim⟩ λA f D u F Z hp hnp O h' k'=>hb A f D u F Z ?_ (by rw[hnp];exact S) O h' k'
 .
  have n':f.np=m1.os.length+1:=n;have x':Ext (m1.os.length+1) (α++[.L l]) (upd H1 l (.lst [])) A u:=x;have F':Frm α H1 u:=λb o e nb=>by
   have X:b≠l:=bf e L;refine x'.frm b o (by rw[au X];exact e) λz=>?_;rw[i5]at z;rcases aaO.mp z with z|z
   .exact nb z
   .exact X (by simpa[ads,Ao.ads]using z)
  have pe':Pers H1 u:=c.pers F';have G:∀k,k<m1.os.length+1->A[k]?=(α++[.L l])[k]?:=λk W=>by
   have:=congrArg (λz=>z[k]?) x'.pre;simp only[aaP,if_pos W]at this;exact this
  have hlen':m1.os.length+1≤f.os.length:=by
   have:=O.npl;rw[n',O.len]at this;exact this
  have hq:m1.os.length<f.os.length:=by assumption
  have eq1:f.os[m1.os.length]?=some (f.os.getD m1.os.length []):=by
   rw[Mt,iO hq];rfl
  let⟨xs,y1,y2⟩:=O.own m1.os.length (.L l) _ (by rw[G _ (ab1 _)];exact V) eq1;have I:∀(k:Nat) (a:Ao) (es:List dL),α[k]?=some a->(f.os.take m1.os.length)[k]?=some es->OwnAt K u a es:=λk a es z1 M=>by
   rw[aaP]at M;have W:k<m1.os.length:=by rw[<-B];exact(DL.mp z1).1
   rw[if_pos W]at M;exact O.own k a es (by rw[G k (by omega),aaz (by omega)];exact z1) M
  have tl:(f.os.take m1.os.length).length=α.length:=by rw[aaB];omega
  have U:Ext K.eb.np α H1 α u:=⟨rfl,F',λ_ h=>.inl h,λa ha=>by
   let⟨k,ao,e1,hm⟩:=ig ha;have W:k<(f.os.take m1.os.length).length:=by rw[tl];exact(DL.mp e1).1
   let⟨o,q,_⟩:=(I k ao _ e1 (iO W)).mem hm;exact⟨o,q⟩⟩
  refine fin _ _ (.ref l) u q n1 ⟨c.nd,tl.symm,I,c.vlen,λi r z=>?_,c.npl,c.ebl,c.ebx.trans U⟩ ?_ (F1.trans F')
  .obtain⟨v,ev,N⟩:=c.var i r z;refine⟨v,ev,?_⟩
   cases r with
   |imm d=>exact Den.mono pe' N
   |obj k=>exact N
   | «at» k p=>exact N
   |new ds=>exact N
   |newT t=>exact N
  .refine⟨l,xs,rfl,?_,y1,y2⟩
   cases z:H l with
   |none=>rfl
   |some o=>
    have:=F1 l o z pα;rw[L]at this;cases this
 .have:=congrArg (λz=>z[m1.os.length]?) hp;simp only[aaP,if_pos S]at this;rw[this];exact V
end
section
variable {X:Cx}{scope sc:Scope}{own fr:List Str}{ps:List Nat}{elt tg a j b:Expr}{ifs e:List Expr}{pos d u:Pos}{w o:WI}{g A:WG}{tt p:WT}{f:WE}
theorem uh(h:tM X.kx (pk w own ps g tt f) σ H Q):z6 (tMI X.kx w) own ps (tl1 (tMG X.kx g) (tMT X.kx tt) (tM X.kx f)) σ H Q:=by
 let⟨v,m,N,c,z,fin⟩:=h;refine⟨v,m,_,c,z,λs m1 J I k n1 R F x l r=>?_⟩;exact zW c n1 R F x r k fin λq M y L D G ha t B n C=>zj B n C λm2 K n2 R2 i E=>zO ha R2 i E
theorem CF(h:tM X.kx (wj w own ps g tt o A p f) σ H Q):z6 (tMI X.kx w) own ps (tl2 (tMG X.kx g) (tMT X.kx tt) (tMI X.kx o) (tMG X.kx A) (tMT X.kx p) (tM X.kx f)) σ H Q:=by
 let⟨L,m,Kc,v,V,fin⟩:=h;refine⟨L,m,_,v,V,λs m1 J H1 k n1 R K M l C=>?_⟩;refine zW v n1 R K M C k fin λc m' S H' D D' ha i W B Z=>zj W B Z λm2 H2 n2 R2 y k2=>?_;refine⟨c,m2,_,R2,y,λs2 x J2 H3 F r t I n=>?_⟩;have hq:m1.os.length<s2.np x:=by
  have:m1.os.length<x.np:=by rw[r,n2];exact i
  unfold Src.np;split
  .omega
  .exact aan this (ae8 _ _)
 refine rF t n F (by rw[r];exact k2.ext (.of t I)) λP m4 σ4 H4 G D4 q hn4 E T Y=>zj E T Y λm5 H5 n5 U N O=>zO ?_ U N O;have:=congrArg (λz=>z[m1.os.length]?) q;simp[aaP,if_pos hq]at this;rw[this];exact ha
theorem Cf(S:bW own fr scope sc)(hi:MI X tg a w)(n:∀cl s H C ex,MG (aU X scope cl (own++fr) s H C ex) tg g)(q:∀cl s H C ex,PTs (aU X scope cl (own++fr) s H C ex) ifs (tMT X.kx tt))
  (m:∀cl s H C ex,ME (aU X scope cl (own++fr) s H C ex) elt f) (c:X.env.scope=sc:=by rfl) (k:ps.map (λi=>X.N[i]?)=fr.map some:=by rfl) (l:X.calm=true:=by rfl) (hs:∀x,aaL a X.env x=pure x:=by intro _;rfl) :
  ME X (.ListComp elt [⟨tg,a,ifs,0⟩] scope pos) (pk w own ps g tt f):=(Dt S hi n q m c k l hs).wk λ_ _ _ h=>uh h
theorem IL:PTs X [] (tMT X.kx yd):=by intro c s h H Q I ⟨k,m,K,R,i,fin⟩;exact IG c s h H Q I (fin true m H i rfl R (Frm.refl _ _))
def F9{t:WT}(h:MT X c t):PTs X [c] (tMT X.kx t):=JJ h
theorem CN(S:bW own fr scope sc)(E:X.N.Nodup)(M:X.N[i]?=some y)(h:X.env.scope.names.lookup y=some .local)(hi:MI X tg a w)(B:∀cl s H C ex,MG (aU X scope cl (own++fr) s H C ex) tg g)(L:∀cl s H C ex,PTs (aU X scope cl (own++fr) s H C ex) ifs (tMT X.kx tt))
  (J:∀cl s H C ex,ME (aU X scope cl (own++fr) s H C ex) elt f) (t:abQ (.ListComp elt [⟨tg,a,ifs,0⟩] scope pos) (some (.Name y u)) d.line X.env=pure true:=by rfl)
  (l:X.env.scope=sc:=by rfl) (c:ps.map (λi=>X.N[i]?)=fr.map some:=by rfl) (G:X.calm=true:=by rfl) (hs:∀x,aaL a X.env x=pure x:=by intro _;rfl) :
  MS X (.Assign [.Name y u] (.ListComp elt [⟨tg,a,ifs,0⟩] scope pos) d) (wSet i (pk w own ps g tt f)):=(Dy S E M h hi B L J t l c G hs).wk λD N H ⟨I,m,P,z,K,k⟩=>
 uh ⟨I,m,_,z,K,λr Q v O q n R rr F=>tq R n F rr q k.nx ⟨m,N,z⟩⟩
theorem Ck(S:bW own fr scope sc)(J:X.N.Nodup)(Q:X.N[i]?=some y)(B:X.env.scope.names.lookup y=some .local)(hi:MI X tg a w)(M:∀cl s H C ex,MG (aU X scope cl (own++fr) s H C ex) tg g)(P:∀cl s H C ex,PTs (aU X scope cl (own++fr) s H C ex) ifs (tMT X.kx tt))
  (hi2:∀cl s H C ex,MI (aU X scope cl (own++fr) s H C ex) j b o) (l:∀cl s H C ex,MG (aU X scope cl (own++fr) s H C ex) j A) (c:∀cl s H C ex,PTs (aU X scope cl (own++fr) s H C ex) e (tMT X.kx p))
  (O:∀cl s H C ex,ME (aU X scope cl (own++fr) s H C ex) elt f) (E:abQ (.ListComp elt [⟨tg,a,ifs,0⟩,⟨j,b,e,0⟩] scope pos) (some (.Name y u)) d.line X.env=pure true:=by rfl)
  (t:X.env.scope=sc:=by rfl) (h:ps.map (λi=>X.N[i]?)=fr.map some:=by rfl) (K:X.calm=true:=by rfl) (hs:∀x,aaL a X.env x=pure x:=by intro _;rfl)
  (z:∀cl C x,aaL b (agL scope cl C X.env) x=pure x:=by intro _ _ _;rfl) :
  MS X (.Assign [.Name y u] (.ListComp elt [⟨tg,a,ifs,0⟩,⟨j,b,e,0⟩] scope pos) d) (wSet i (wj w own ps g tt o A p f)):=(CW S J Q B hi M P hi2 l c O E t h K hs z).wk λD N H ⟨I,m,V,G,L,k⟩=>
 CF ⟨I,m,_,G,L,λr U v T q n R rr F=>tq R n F rr q k.nx ⟨m,N,G⟩⟩
end
def bx{i:Str}(h:Den K H (.str i) v):v = .str i:=by simpa[Den]
def kz{i:Bool}(h:Den K H (.bool i) v):v = .bl i:=by simpa[Den]
def l7(h:Den K H .none v):v = .non:=by simpa[Den]
def dB(i:Int):RelR K α Hb H (.imm (.int i)) (.int i):=rfl
def qg(i:Bool):RelR K α Hb H (.imm (.bool i)) (.bl i):=rfl
def wg(i:Str):RelR K α Hb H (.imm (.str i)) (.str i):=rfl
def yF:RelR K α Hb H (.imm .none) .non:=rfl
def lG{d:dL}(h:Den K H d v):RelR K α Hb H (.imm d) v:=h
def bI(h:Den K H (.tuple ds) v):∃a xs,v = .ref a/\SqT K H a xs/\DenAll K H ds xs:=by simpa only[Den]
def cR(f:SqT K H a xs)(g:DenAll K H ds xs):Den K H (.tuple ds) (.ref a):=by  exact⟨a,xs,rfl,f,g⟩
section
variable {X:Cx}
noncomputable def oAdd:WO
 | .imm (.int i),.imm (.int j),_,K=>K (.imm (.int (i+j)))
 | .imm (.str x),.imm (.str y),_,K=>x.length+y.length≤aad/\K (.imm (.str (x++y)))
 | .imm (.tuple a),.imm (.tuple b),_,K=>a.length+b.length≤aad/\K (.imm (.tuple (a++b)))
 |r1,r2,m,K=>∃d c,lsOf m r1=some d/\lsOf m r2=some c/\d.length+c.length≤aad/\K (.new (d++c))
theorem aQ:OpR X (acs .Add) (rM X.kx oAdd):=by
 intro g s z H x y v u Q I D N ⟨α,m,σ,H0,H1,r1,r2,Kc,R,E,C,ho,fin⟩;unfold oAdd at ho
 split at ho
 .rename_i _ _ i j;have G:=aM (show Den X.kx H (.int i) x from E);have J:=aM (show Den X.kx H (.int j) y from C);subst G J;exact Mj g s z H _ _ v u Q I D N ⟨i,j,rfl,rfl,fin _ _ H ho R (dB _) (Frm.refl _ _)⟩
 .rename_i _ _ i j;have G:=bx (show Den X.kx H (.str i) x from E);have J:=bx (show Den X.kx H (.str j) y from C);subst G J;exact vW g s z H _ _ v u Q I D N ⟨i,j,rfl,rfl,ho.1,fin _ _ H ho.2 R (wg _) (Frm.refl _ _)⟩
 .rename_i _ _ ds es;let⟨a,K,rfl,P,A⟩:=bI (show Den X.kx H (.tuple ds) x from E);let⟨b,O,rfl,S,B⟩:=bI (show Den X.kx H (.tuple es) y from C);let⟨W,ho⟩:=ho
  by_cases hx:K=[]
  .subst hx
   cases D;cases N
   let⟨l,r,p1,_⟩:=I.tuple P;let⟨c,w,p2,_⟩:=I.tuple S;cases r;let⟨⟨U,Y,M,V⟩,k,L,n,hd⟩:=id p1;let⟨⟨F,q,t,o⟩,h,d,n2,f⟩:=id p2;simp only at L hd d f;subst L hd d f;have T:ds=[]:=by cases ds with|nil=>rfl|cons _ _=>have:=A.length;simp at this
   subst T;exact agh ⟨_,k,rfl⟩ ⟨_,h,rfl⟩ af0 ahf aei aed (adT _ _)
    (tuple_addW0 a b _ c.toArray n n2 Y q V o (by simp)) ⟨k,h,⟨.ref b,H,I,rfl,fin _ _ H ho R (show Den X.kx H (.tuple ([]++es)) (.ref b)from C) (Frm.refl _ _)⟩⟩
  .refine Iz g s z H _ _ v u Q I D N ⟨a,b,K,O,rfl,rfl,P,S,hx,by rw[<-A.length,<-B.length];exact W,λe=>?_,λe p hp=>?_⟩
   .subst e;have T:es=[]:=by cases es with|nil=>rfl|cons _ _=>have:=B.length;simp at this
    subst T;exact fin _ _ H (by rw[aa7]at ho;exact ho) R (lG E) (Frm.refl _ _)
   .exact fin _ _ _ ho (R.lay hp) (lG<|cR (SqT.of ay) ((A.append B).mono (bu (.inl hp)))) (cz hp)
 .obtain⟨ds,es,G,J,W,ho⟩:=ho;let⟨a,K,rfl,P,A⟩:=E.list R G;let⟨b,O,rfl,S,B⟩:=C.list R J
  cases D;cases N
  let⟨l,r,⟨⟨U,Y,M,V⟩,n,k,L,hdd,hd⟩,_⟩:=I.list P;let⟨c,w,⟨⟨F,q,t,o⟩,n2,h,d,Z,f⟩,_⟩:=I.list S;simp only at L hd d f;subst L hd d f;have hzz:K.length+O.length≤aad:=by rw[<-A.length,<-B.length];exact W
  refine agh ⟨_,k,rfl⟩ ⟨_,h,rfl⟩ noFill_list_add seq_list_add PySem.F.slot_list_add PySem.F.entry_list_add (PySem.F.args_list_add_2 _ _) (list_addW a b l.toArray c.toArray n n2 Y q V o (by have:=r.length;have:=w.length;simp only[aav];omega)) ⟨k,h,?_⟩;have ea:l.toArray++c.toArray=(l++c).toArray:=by simp
  rw[ea];have hp:H s.heap.objs.size=none:=I.fresh;exact⟨.ref _,_,I.lnew (t':=s.toks) (r.append w) (by rw[aaj];omega),rfl,fin _ _ _ ho (R.lay hp) ⟨_,K++O,rfl,hp,ay,(A.append B).mono (bu (.inl hp))⟩ (cz hp)⟩
noncomputable def oII(C:Int->Int->Prop)(g:Int->Int->Int):WO
 | .imm (.int i),.imm (.int j),_,K=>C i j/\K (.imm (.int (g i j)))
 |_,_,_,_=>False
noncomputable def oIB(g:Int->Int->Bool):WO
 | .imm (.int i),.imm (.int j),_,K=>K (.imm (.bool (g i j)))
 |_,_,_,_=>False
theorem pQ{f:lD->lD->Sem lD}{C:Int->Int->Prop}{g:Int->Int->Int}(h:OpR X f (rI C λi j=>.int (g i j))):OpR X f (rM X.kx (oII C g)):=by
 intro p s a H x y v u Q I r k ⟨o,m,q,l,n,r1,t,K,R,c,b,ho,fin⟩;unfold oII at ho
 split at ho
 .rename_i _ _ i j;have e:=aM (show Den X.kx H _ x from c);have d:=aM (show Den X.kx H _ y from b);subst e d;exact h p s a H _ _ v u Q I r k ⟨i,j,rfl,rfl,ho.1,fin _ _ H ho.2 R (dB _) (Frm.refl _ _)⟩
 .simp_all
theorem zT{f:lD->lD->Sem lD}{g:Int->Int->Bool}(h:OpR X f (rI0 λi j=>.bl (g i j))):OpR X f (rM X.kx (oIB g)):=by
 intro p s a H x y v u Q I r k ⟨o,m,q,l,n,r1,t,K,R,c,b,ho,fin⟩;unfold oIB at ho
 split at ho
 .rename_i _ _ i j;have e:=aM (show Den X.kx H _ x from c);have d:=aM (show Den X.kx H _ y from b);subst e d;exact h p s a H _ _ v u Q I r k ⟨i,j,rfl,rfl,fin _ _ H ho R (qg _) (Frm.refl _ _)⟩
 .simp_all
noncomputable def oSub:WO:=oII (λ_ _=>True) λi j=>i-j
theorem sg:OpR X (acs .Sub) (rM X.kx oSub):=pQ (opI λ_ _ _ _ _ _ _ _ q=>sub_int q)
noncomputable def oMul:WO:=oII afY λi j=>i*j
theorem GI:OpR X (acs .Mult) (rM X.kx oMul):=pQ (opI λ_ _ _ _ _ _ _ h q=>mul_int q h)
noncomputable def CFd(_ j:Int):Prop:=0<j/\j.natAbs.log2<9000
noncomputable def KG:WO:=oII CFd λi j=>i/j
theorem cY:OpR X (acs .FloorDiv) (rM X.kx KG):=pQ (opI λi j _ _ _ _ _ h q=>floordiv_int (by have:=h.1;omega) (by rw[Int.fdiv_eq_ediv_of_nonneg _ (by have:=h.1;omega)];exact q) (.inl (PyProof.noPylong_of_log2 h.2)))
noncomputable def oMod:WO:=oII (λ_ j=>0<j) λi j=>i%j
def cQ:OpR X (acs .Mod) (rM X.kx oMod):=pQ Oh
noncomputable def oPow:WO:=oII CPow λi j=>i^j.toNat
def JT:OpR X (acs .Pow) (rM X.kx oPow):=pQ L5
noncomputable def oLt:WO:=oIB λi j=>decide (i<j)
noncomputable def oGt:WO:=oIB λi j=>decide (j<i)
noncomputable def oGe:WO:=oIB λi j=>decide (j≤i)
def jk:OpR X (abR .Lt) (rM X.kx oLt):=zT QE
def il:OpR X (abR .Gt) (rM X.kx oGt):=zT Sf
def Pg:OpR X (abR .GtE) (rM X.kx oGe):=zT QB
noncomputable def eqD(f:Bool->Bool):WO:=λr1 r m K=>match asD m r1,asD m r with
 |some d1,some d2=>aej d1=true/\aej d2=true/\K (.imm (.bool (f (aah d1 d2))))
 |_,_=>False
noncomputable def eqS(f:Bool->Bool):WO:=λr1 r m K=>∃x y:Str,r1 = .imm (.str x)/\r = .imm (.str y)/\K (.imm (.bool (f (decide (x=y)))))
noncomputable def eqSs(f:Bool->Bool):WO:=λr1 r m K=>∃x y:List Str,lsOf m r1=some (x.map .str)/\lsOf m r=some (y.map .str)/\x.length=y.length/\K (.imm (.bool (f (decide (x=y)))))
noncomputable def oEq:WO:=λr1 r m K=>eqD id r1 r m K\/eqS id r1 r m K\/eqSs id r1 r m K
noncomputable def oNe:WO:=λr1 r m K=>eqD (!·) r1 r m K\/eqS (!·) r1 r m K
theorem gV{K:Kd}{H:Hp}:∀{ns:List Str}{xs:List V},DenAll K H (ns.map .str) xs->xs=ns.map V.str
 |[],_,h=>by simpa only[ DenAll]
 |n::ns,_,h=>by
  let⟨v,vs,rfl,b,a⟩:=h;have e:=bx b;rw[e,gV a];rfl
theorem m8:∀{ns:List Str}{a:List lD}{j:Nat}{u:lD},Vals (ns.map V.str) a->a[j]?=some u->∃x t,ns[j]?=some x/\u = .str x t
 |[],_,_,_,.nil,e=>by simp at e
 |n::ns,_,0,_,.cons r _,e=>by
  simp at e;subst e;let⟨t,h⟩:=r;exact⟨n,t,rfl,h⟩
 |n::ns,_,j+1,u,.cons _ t,e=>by
  let⟨x,b,d,c⟩:=m8 t ‹_›;exact⟨x,b,by simpa using d,c⟩
theorem sf(xs ys:List Str)(h:xs.length=ys.length):(aaw xs.length).all (λj=>decide (xs.getD j ahO=ys.getD j ahO))=decide (xs=ys):=by
 rw[acz,ab2,decide_eq_true_eq];constructor
 .intro q;apply af1 h;intro i b a;have:=q i (by simpa);rw[decide_eq_true_eq,Mt,Mt,iO b,iO a]at this;exact this
 .rintro rfl j _;exact decide_eq_true rfl
theorem GH{s:mT}{x y:V}{v u:lD}{m:MSt}{r1 k:R}{xs ys:List Str}(I:Inv X pins σ' H s)(h:Rel X.kx α m σ H)(o:RelR X.kx α H0 H r1 x)(n:RelR X.kx α H1 H k y)(K:RelV x v)(F:RelV y u)
  (M:lsOf m r1=some (xs.map .str)) (z:lsOf m k=some (ys.map .str)) (p:xs.length=ys.length) (U:X.A.units+64<cLine):∃l b c i,v = .ref l/\u = .ref b/\s.heap.IsList l c/\s.heap.IsList b i/\c.size=xs.length/\i.size=xs.length/\
   ∀j (O:j<c.size) (B:j<i.size),agd X.A.in1 s c[j] i[j] (decide (xs.getD j ahO=ys.getD j ahO)):=by
 let⟨a,Y,rfl,N,J⟩:=o.list h M;let⟨b,W,rfl,G,S⟩:=n.list h z;have w:=gV J;have Q:=gV S;subst w Q
 cases K;cases F
 let⟨c,d,D,_⟩:=I.list N;let⟨i,r,q,_⟩:=I.list G;have g:=d.length;have f:=r.length;rw[gE]at g f;refine⟨a,b,c.toArray,i.toArray,rfl,rfl,D.isList,q.isList,by simp[g],by simp[<-f,p],λj O B=>?_⟩;let⟨x,t,L,T⟩:=m8 d (j:=j) (u:=c.toArray[j]) (by simp);let⟨y,C,P,E⟩:=m8 r (j:=j) (u:=i.toArray[j]) (by simp);rw[T,E,Mt,Mt,L,P];have:=agd.str_str (A:=X.A.in1) (s:=s) x t y C;have e:(x==y)=decide (x=y):=by rw[aew]
 simp_all
theorem bH(i:X.A.units+64<cLine):OpR X (abR .Eq) (rM X.kx oEq):=by
 intro p s d H x y v u Q I r f ⟨A,m,B,o,w,r1,C,K,R,c,h,ho,fin⟩;rcases ho with ho|⟨z,t,rfl,rfl,ho⟩|⟨k,j,e,a,g,ho⟩
 .unfold eqD at ho
  split at ho
  .rename_i d1 d2 e a;let⟨as,q⟩:=c.reads I R r e (abe _ (adh ho.1));let⟨bs,n⟩:=h.reads I R f a (abe _ (adh ho.2.1));exact eq_dataH q n ho.1 ho.2.1 i ⟨.bl _,H,I,rfl,fin _ _ H ho.2.2 R (qg _) (Frm.refl _ _)⟩
  .exact ho.elim
 .have e:=bx (show Den X.kx H (.str z) x from c);have a:=bx (show Den X.kx H (.str t) y from h);subst e a;refine Se p s d H _ _ v u Q I r f ⟨rfl,?_⟩;rw[oz];exact fin _ _ H ho R (qg _) (Frm.refl _ _)
 .obtain⟨l,b,its,its2,rfl,rfl,p1,p2,s1,s2,he⟩:=GH I R c h r f e a g i;refine SeqAt.eq_listAt p1 p2 (s1.trans s2.symm) (by omega) he ?_;rw[s1,sf k j g];exact⟨.bl _,H,I,rfl,fin _ _ H ho R (qg _) (Frm.refl _ _)⟩
theorem qW(d:X.A.units+64<cLine):OpR X (abR .NotEq) (rM X.kx oNe):=by
 intro p s a H x y v u Q I r c ⟨j,m,k,g,i,r1,l,K,R,b,h,ho,fin⟩;rcases ho with ho|⟨z,t,rfl,rfl,ho⟩
 .unfold eqD at ho
  split at ho
  .rename_i d1 d2 e1 e;let⟨as,q⟩:=b.reads I R r e1 (abe _ (adh ho.1));let⟨bs,f⟩:=h.reads I R c e (abe _ (adh ho.2.1));exact ne_dataH q f ho.1 ho.2.1 d ⟨.bl _,H,I,rfl,fin _ _ H ho.2.2 R (qg _) (Frm.refl _ _)⟩
  .simp_all
 .have e1:=bx (show Den X.kx H (.str z) x from b);have e:=bx (show Den X.kx H _ y from h);subst e1 e;refine QR p s a H _ _ v u Q I r c ⟨rfl,?_⟩;rw[oz];exact fin _ _ H ho R (qg _) (Frm.refl _ _)
noncomputable def isNone:R->Bool
 | .imm .none=>true
 |_=>false
noncomputable def y8:WO:=λr1 r _ K=>r = .imm .none/\K (.imm (.bool (!isNone r1)))
theorem vH(h:RelR K α Hb H r v):decide (v = .non)=isNone r:=by
 cases r with
 |obj k=>let⟨a,_,rfl⟩:=h;rfl
 |new ds=>let⟨a,_,rfl,_⟩:=h;rfl
 | «at» k p=>let⟨f,a,_,_,rfl⟩:=h;rfl
 |newT t=>let⟨f,a,rfl,_⟩:=h;rfl
 |imm d=>
  cases d with
  |none=>have e:=l7 (show Den K H .none v from h);subst e;rfl
  |bool b=>have e:=kz (show Den K H _ v from h);subst e;rfl
  |int b=>have e:=aM (show Den K H _ v from h);subst e;rfl
  |str b=>have e:=bx (show Den K H _ v from h);subst e;rfl
  |list ds=>have c:=h;let⟨a,_,rfl,_⟩:=c;rfl
  |tuple ds=>let⟨a,_,rfl,_⟩:=bI (h);rfl
  |dict g=>have c:=h;let⟨a,rfl,_⟩:=c;rfl
theorem vP:OpR X (abR .IsNot) (rM X.kx y8):=by
 intro p s a H x y v u Q I r d ⟨i,m,k,f,g,r1,j,K,R,c,h,ho,fin⟩;let⟨e,ho⟩:=ho;subst e;have b:=l7 (show Den X.kx H .none y from h);exact Ix p s a H _ _ v u Q I r d ⟨b,by rw[vH c];exact fin _ _ H ho R (qg _) (Frm.refl _ _)⟩
noncomputable def uNeg:WU
 | .imm (.int i),_,K=>K (.imm (.int (-i)))
 |_,_,_=>False
theorem h7:UnR X (unaryOp .USub) (uM X.kx uNeg):=by
 intro p s a H x v Q I r ⟨c,m,d,b,r1,K,R,h,ho,fin⟩;unfold uNeg at ho
 split at ho
 .rename_i _ i;have e:=aM (show Den X.kx H _ x from h);subst e;exact Nw p s a H _ v Q I r ⟨i,rfl,fin _ _ H ho R (dB _) (Frm.refl _ _)⟩
 .simp_all
noncomputable def Ak(m:MSt)(K:R->Prop):R->R->Prop
 | .imm (.tuple ds),.imm (.int i)=>∃d,atI ds i=some d/\K (.imm d)
 | .imm (.str x),.imm (.int i)=>∃c,x.length≤aad/\atI x.cps.toList i=some c/\K (.imm (.str ⟨#[c]⟩))
 |r,.imm (.int i)=>∃ds d,lsOf m r=some ds/\atI ds i=some d/\K (.imm d)
 |_,_=>False
noncomputable def qz:WO:=λr1 r m K=>Ak m K r1 r
theorem yN{K:Kx}{i:Int}{d:dL}(g:DenAll K H ds xs)(e:atI ds i=some d):∃v,atI xs i=some v/\Den K H d v:=by
 unfold atI at e⊢;rw[<-g.length]
 cases q:ixN ds.length i with
 |none=>rw[q]at e;cases e
 |some j=>
  rw[q]at e;let⟨v,a,h⟩:=g.get (e);exact⟨v,a,h⟩
theorem IC:IxR X (rM X.kx qz):=by
 intro b h p s n H x y v u Q I r D ⟨N,m,O,L,M,r1,F,K,R,t,q,ho,fin⟩ l;have j:Ak m K r1 F:=ho;unfold Ak at j
 split at j
 .rename_i ds i;let⟨d,e,k⟩:=j;let⟨a,C,rfl,f,g⟩:=bI (t);have o:=aM (show Den X.kx H (.int i) y from q);let⟨z,A,B⟩:=yN g e;exact Ml b h p s n H _ _ v u Q I r D ⟨a,C,i,z,rfl,o,f,A,fin _ _ H k R (lG B) (Frm.refl _ _)⟩ l
 .rename_i w i;let⟨c,J,e,k⟩:=j;have E:=bx (show Den X.kx H (.str w) x from t);have o:=aM (show Den X.kx H (.int i) y from q);exact Kl b h p s n H _ _ v u Q I r D ⟨w,i,c,E,o,J,e,fin _ _ H k R (wg _) (Frm.refl _ _)⟩ l
 .rename_i i _ _;let⟨ds,d,G,e,k⟩:=j;let⟨a,C,rfl,f,g⟩:=t.list R G;have o:=aM (show Den X.kx H (.int i) y from q);let⟨z,A,B⟩:=yN g e;exact Jm b h p s n H _ _ v u Q I r D ⟨a,C,i,z,rfl,o,f,A,fin _ _ H k R (lG B) (Frm.refl _ _)⟩ l
 .exact j.elim
theorem Qy{a b:Expr}{w c:WE}(ha:ME X a w)(hb:ME X b c)(hs:rq b:=by intro _ _;rfl):ME X (.Subscript a b pos) (wBin qz w c):=(RQ IC ha hb hs).wk λ_ _ _ h=>vn h
end
noncomputable abbrev y9(P:Int->Prop):R->Prop
 | .imm (.int i)=>P i
 |_=>False
noncomputable abbrev xw(P:Nat->Prop):R->Prop
 | .obj k=>P k
 |_=>False
noncomputable abbrev on1(P:R->Prop):List R->Prop
 |[r]=>P r
 |_=>False
section
variable {K:Kx}{b:Al}{c H:Hp}{r:R}{v:V}
theorem yV{P:Int->Prop}(rr:RelR K b c H r v)(h:y9 P r):∃i,r = .imm (.int i)/\v = .int i/\P i:=by
 unfold y9 at h
 split at h
 .exact⟨_,rfl,aM (K:=K) (H:=H) rr,h⟩
 .simp_all
theorem zy{P:Nat->Prop}(rr:RelR K b c H r v)(h:xw P r):∃k a,r = .obj k/\b[k]?=some (.L a)/\v = .ref a/\P k:=by
 unfold xw at h
 split at h
 .obtain⟨a,e1,e2⟩:=rr;exact⟨_,a,rfl,e1,e2,h⟩
 .simp_all
theorem dH{P:R->Prop}{rs:List R}(rr:RelRs K b c H rs xs)(h:on1 P rs):∃r v,rs=[r]/\xs=[v]/\RelR K b c H r v/\P r:=by
 cases rr with
 |nil=>exact h.elim
 |cons a t=>
  cases t with
  |nil=>exact⟨_,_,rfl,rfl,a,h⟩
  |cons _ _=>exact h.elim
end
section
variable {X:Cx}{o a b c e:Expr}{es:List Expr}{A J L M B G:WE}{E:WA}{pos C y:Pos}
noncomputable abbrev WM:=R->List R->MSt->(R->MSt->Prop)->Prop
noncomputable def mM(K:Kx)(n:WM):V->List V->Hp->VK->Prop:=λx k H Q=>∃d m h j l r rs i,Rel K d m h H/\RelR K d j H r x/\RelRs K d l H rs k/\n r rs m i/\∀r g v f,i r g->g.np=m.np->Rel K d g h f->RelR K d H f r v->Frm d H f->Q v f
noncomputable abbrev wML(d:WM)(A:WE)(E:WA):WE:=λm K=>A m λr m1=>(∃ds,lsOf m1 r=some ds)/\E m1 λrs m2=>d r rs m2 K
theorem Rj{s:WM}(h:tM X.kx (wML s A E) σ H Q):tBM X.K "list" (mM X.kx s) (tM X.kx A) (tMA X.kx E) σ H Q:=by
 let⟨l,m,N,u,I,fin⟩:=h;refine⟨l,m,_,u,I,λr m1 v w k n1 R rr t=>?_⟩;let⟨⟨ds,z⟩,k⟩:=k;let⟨a,x,rfl,f,g⟩:=rr.list R z;refine⟨.inl ⟨rfl,x,f⟩,l,m1,_,R,k,λrs m2 vs P O n2 d i j=>?_⟩;exact⟨l,m2,σ,H,w,r,rs,N,d,rr.keep u R j,i,O,λr K v D k n q p F=>fin r K v D k (n.trans (n2.trans n1)) q (p.base d (t.trans j)) ((t.trans j).trans F)⟩
theorem Sy{name:Str}{id:String}{k:WM}(slot:Slot "list" name id)(j:typeOf (.builtin id)=pure (.type "method_descriptor"))(l:MtM X id (mM X.kx k))(ho:ME X o A)(ha:MA X (e::es) E)
  (f:abz o name X.env (eval o X.env)=eval o X.env:=by rfl)
  (i:((acg y (aac (e::es) X.env)).all (λx=>!x.1)&&(afq y (adB [] X.env)).all (λx=>x.1.isSome)
   && decide ((e::es).length+([]:List ade).length+(if ([]:List ade).isEmpty then 0 else 1)<30))=true:=by rfl)
  (g:(C.endLine==y.line)=true:=by rfl) (hs:aac (e::es) X.env=(false,eval e X.env)::aac es X.env:=by first|exact ba rfl|rfl) (d:(acg y (aac es X.env)).any (·.1)=false:=by rfl) :
  ME X (.Call (.Attribute o name C) (e::es) [] y) (wML k A E):=(Kh PySem.F.plainAttrs_list slot j l ho ha f i g hs d).wk λ_ _ _ h=>Rj h
noncomputable def yi:WM:=λr rs m K=>xw (λk=>on1 (i7 λd=>∃ds,m.os[k]?=some ds/\ds.length<aad/\K (.imm .none) {m with os:=m.os.set k (ds++[d])}) rs) r
theorem e8:MtM X "list.append" (mM X.kx yi):=by
 intro p s f H x T v u Q I j z ⟨O,m,P,D,N,r,rs,U,R,l,h,ho,fin⟩;let⟨k,a,rfl,i,rfl,ho⟩:=zy l ho;let⟨S,K,rfl,rfl,h,ho⟩:=dH h ho;let⟨d,rfl,hd,ds,t,w,ho⟩:=fE h ho;let⟨n,q,g⟩:=R.own _ _ ds i t;let⟨R2,F⟩:=R.setO i q (g.append (DenAll.cons hd DenAll.nil));exact po p s f H _ _ v u Q I j z ⟨a,n,_,rfl,rfl,q,by rw[<-g.length];exact w,fin _ _ _ _ ho rfl R2 yF F⟩
noncomputable abbrev Qc(B A G:WE):WS:=λD m=>B m λh m1=>i7 (λd=>A m1 λg m2=>G m2 λr f=>xw (λk=>y9 (λz=>∃ds j,f.os[k]?=some ds/\ixN ds.length z=some j/\D.nx {f with os:=f.os.set k (ds.set j d)}) r) g) h
theorem IZ{b i:Expr}(he:ME X e B)(ho:ME X b A)(hi:ME X i G)(hs:ac2 [.Subscript b i pos'] e pos.line X.env=pure false:=by rfl)(x:ac3 [.Subscript b i pos'] e X.env=pure none:=by rfl)
  (Q:(abG [.Subscript b i pos'] X.env).map (·.2)=[ad5 (.Subscript b i pos') X.env]:=by rfl) (ha:∀v,ad5 (.Subscript b i pos') X.env v=(do
   let n <- adx [v] (eval b X.env)
   let t <- adx [v,n] (eval i X.env)
   adw pos'
   adx [v,n,t] (ahx n t v)
   release [v,n,t] []):=by intro _;rfl):MS X (.Assign [.Subscript b i pos'] e pos) (Qc B A G):=(E8 he (L6 ho hi Ba ha) hs x Q).wk<|by
 intro D V H ⟨s,m,De,Y,x,k⟩;refine⟨s,m,_,Y,x,λr m1 v H1 q n1 R rr U=>?_⟩;let⟨d,er,hd,q⟩:=fE rr q;refine⟨s,m1,_,R,q,λro m2 n H2 q2 n2 l w N=>⟨s,m2,_,l,q2,λri m3 t H3 h W f F K=>?_⟩⟩;let⟨kk,p,rfl,O,rfl,h⟩:=zy w h;let⟨z,rfl,rfl,ds,j,Z,P,h⟩:=yV F h;let⟨T,q,g⟩:=f.own _ _ ds O Z;have u:=(hd.mono (R.pers N)).mono (l.pers K);let⟨I,S⟩:=f.setO O q (g.set u j);exact⟨p,T,z,j,rfl,rfl,q,by rw[<-g.length];exact P,k.nx s _ V _ h (W.trans (n2.trans n1)) I (.of I (((U.trans N).trans K).trans S))⟩
noncomputable def lenR(m:MSt)(K:R->Prop):R->Prop
 | .imm (.str x)=>x.length≤aad/\K (.imm (.int x.length))
 | .imm (.tuple ds)=>K (.imm (.int ds.length))
 |r=>∃ds,lsOf m r=some ds/\K (.imm (.int ds.length))
noncomputable abbrev oLen:WC:=λrs m K=>on1 (lenR m K) rs
theorem aV:di X (.builtin "len") (cM X.kx oLen):=by
 intro p s d H t u Q I k ⟨n,m,q,l,rs,K,R,h,ho,fin⟩;let⟨r,v,rfl,rfl,i,ho⟩:=dH h ho;unfold lenR at ho
 split at ho
 .rename_i x _;have e:=bx (show Den X.kx H _ _ from i);subst e;exact pC p s d H _ u Q I k ⟨x,rfl,ho.1,fin _ _ H ho.2 R (dB _) (Frm.refl _ _)⟩
 .obtain⟨a,j,rfl,f,g⟩:=bI (i);exact jn p s d H _ u Q I k ⟨a,j,rfl,.inr f,by rw[<-g.length];exact fin _ _ H ho R (dB _) (Frm.refl _ _)⟩
 .obtain⟨ds,el,ho⟩:=ho;let⟨a,j,rfl,f,g⟩:=i.list R el;exact jn p s d H _ u Q I k ⟨a,j,rfl,.inl f,by rw[<-g.length];exact fin _ _ H ho R (dB _) (Frm.refl _ _)⟩
noncomputable abbrev oAbs:WC:=λrs m K=>on1 (y9 λi=>K (.imm (.int (if i<0 then -i else i)))) rs
theorem qi:di X (.builtin "abs") (cM X.kx oAbs):=by
 intro p s d H x u Q I g ⟨k,m,l,j,rs,K,R,h,ho,fin⟩;let⟨r,v,rfl,rfl,f,ho⟩:=dH h ho;let⟨i,rfl,rfl,ho⟩:=yV f ho;exact CI p s d H _ u Q I g ⟨i,rfl,fin _ _ H ho R (dB _) (Frm.refl _ _)⟩
noncomputable abbrev intR(K:R->Prop):R->Prop
 | .imm (.int i)=>K (.imm (.int i))
 | .imm (.bool b)=>K (.imm (.int (if b then 1 else 0)))
 |_=>False
noncomputable abbrev oInt:WC:=λrs m K=>on1 (intR K) rs
theorem kg:di X (.type "int") (cM X.kx oInt):=by
 intro p s d H x u Q I g ⟨k,m,l,j,rs,K,R,h,ho,fin⟩;let⟨r,v,rfl,rfl,f,ho⟩:=dH h ho;unfold intR at ho
 split at ho
 .rename_i i _;have e:=aM (show Den X.kx H _ _ from f);subst e;exact o7 p s d H _ u Q I g (.inl ⟨i,rfl,fin _ _ H ho R (dB _) (Frm.refl _ _)⟩)
 .rename_i i _;have e:=kz (show Den X.kx H _ _ from f);subst e;exact o7 p s d H _ u Q I g (.inr ⟨i,rfl,fin _ _ H ho R (dB _) (Frm.refl _ _)⟩)
 .simp_all
noncomputable def sqOf(m:MSt):R->Option (List dL)
 | .imm (.tuple ds)=>some ds
 |r=>lsOf m r
theorem RelR.seq{K:Kx}{m:MSt}(R:Rel K α m σ H)(h:RelR K α H0 H r v)(e:sqOf m r=some ds):∃a xs,v = .ref a/\(SqL K H a xs\/SqT K H a xs)/\DenAll K H ds xs:=by
 unfold sqOf at e
 split at e
 .cases e;let⟨a,d,e,f,g⟩:=bI (h);exact⟨a,d,e,.inr f,g⟩
 .obtain⟨a,d,e,f,g⟩:=h.list R e;exact⟨a,d,e,.inl f,g⟩
noncomputable def FC:WC:=λrs m K=>on1 (λr=>∃ds,sqOf m r=some ds/\K (.imm (.tuple ds))) rs
theorem de:di X (.type "tuple") (cM X.kx FC):=by
 intro p s i H x u Q I n ⟨t,m,w,q,rs,K,R,h,ho,fin⟩;let⟨r,v,rfl,rfl,j,ho⟩:=dH h ho
 .obtain⟨ds,e,ho⟩:=ho;let⟨a,k,rfl,f,g⟩:=j.seq R e;refine om p s i H _ u Q I n ⟨a,k,rfl,?_⟩;rcases f with f|f
  .exact .inl ⟨f,λl d=>fin _ _ _ ho (R.lay d) (lG (cR (SqT.of ay) (g.mono (bu (.inl d))))) (cz d)⟩
  .exact .inr ⟨f,fin _ _ _ ho R (lG (cR f g)) (Frm.refl _ _)⟩
noncomputable def IY:WC:=λrs m K=>on1 (λr=>∃d,asD m r=some d/\d.showable=true/\d.hasDict=false/\d.shown.length≤aad/\d.depth≤100/\K (.imm (.str d.shown))) rs
theorem c9(N:X.A.guards=some [])(Y:X.A.units+200<cLine):di X (.builtin "repr") (cM X.kx IY):=by
 intro p s K H Z U Q I S ⟨V,m,W,T,rs,Kc,R,h,ho,fin⟩;let⟨r,v,rfl,rfl,O,ho⟩:=dH h ho
 .obtain⟨d,e,hs,hnd,hz,hdp,ho⟩:=ho;let⟨u,rfl,P⟩:=S.one;let⟨as,q⟩:=O.reads I R P e hnd;have done:∀f k g,_->EP X p K Q (.str d.shown k) {s with heap:=g,toks:=f}:=λf k g j=>⟨.str d.shown,H,I.kept (t':=f) j,⟨_,rfl⟩,fin _ _ H ho R (wg _) (Frm.refl _ _)⟩
  cases q with
  |none=>exact PySem.P.repr_of_none (done _ _ _ λ_ _ z=>z)
  |bool b=>
   have:=done (s.toks+1) s.toks s.heap λ_ _ z=>z;simp only[agm]at this;exact PySem.P.repr_of_bool (by cases b<;>exact this)
  |int i t=>
   refine PySem.P.repr_of_int (by simpa[dL.showable]using hs) ?_;have:=done (s.toks+1) s.toks s.heap λ_ _ z=>z;simp only[agm]at this;exact this
  |str x t=>
   have F:=by simpa only[agm]using hz
   refine PySem.P.repr_of_str ?_ F;have:=done (s.toks+1) s.toks s.heap λ_ _ z=>z;simp only[agm]at this;exact this
  |list l n D w=>exact repr_of_reads' (.list l n D w) hs (ahE hnd) N (by omega) (λ_ _ z=>z) (λg u f j=>done f u g j) hz
  |tuple l n D w=>exact repr_of_reads' (.tuple l n D w) hs (ahE hnd) N (by omega) (λ_ _ z=>z) (λg u f j=>done f u g j) hz
  |dict l n D w z5=>simp[acO]at hnd
noncomputable def sM(K:Kx)(o:R->Option Int->Option Int->MSt->(R->Prop)->Prop):V->Option Int->Option Int->Hp->VK->Prop:=λx l j H Q=>∃d m g i r h,Rel K d m g H/\RelR K d i H r x/\o r l j m h/\∀r v f,h r->Rel K d m g f->RelR K d H f r v->Frm d H f->Q v f
noncomputable def cutD(xs:List dL)(lo hi:Option Int):List dL:=(xs.drop (HT.sIx xs.length 0 lo)).take (HT.sIx xs.length xs.length hi-HT.sIx xs.length 0 lo)
def yO(g:DenAll K H ds xs)(lo hi:Option Int):DenAll K H (cutD ds lo hi) (cutV xs lo hi):=by
 unfold cutD cutV;rw[<-g.length];exact(g.drop _).take _
noncomputable def RJ:R->Option Int->Option Int->MSt->(R->Prop)->Prop:=λr l h m K=>∃ds,lsOf m r=some ds/\K (.new (cutD ds l h))
theorem CY:SlR X (sM X.kx RJ):=by
 intro d s i H x v vl D l j t Q I n hs u w z;let⟨K,m,N,F,r,O,R,h,⟨ds,e,k⟩,fin⟩:=z;let⟨a,q,rfl,f,g⟩:=h.list R e;exact IQ d s i H _ v vl D l j t Q I n hs u w ⟨a,q,rfl,f,λp hp=>fin _ _ _ k (R.lay hp) ⟨p,_,rfl,hp,ay,(yO g l j).mono (bu (.inl hp))⟩ (cz hp)⟩
noncomputable def WO1:=MSt->(Option Int->MSt->Prop)->Prop
noncomputable def tMO(K:Kx)(w:WO1):TO:=λh H Q=>∃d m i,Rel K d m h H/\w m i/\∀r f g,i r f->f.np=m.np->Rel K d f h g->Frm d H g->Q r g
noncomputable abbrev Aa:WO1:=λm K=>K none m
noncomputable abbrev Om(w:WE):WO1:=λm K=>w m λr d=>y9 (λi=>K (some i) d) r
theorem PO.wk{X:Cx}{e:Option Expr}{t t':TO}(h:PO X e t)(k:∀d H Q,t' d H Q->t d H Q):PO X e t':=λp s d H Q I q=>h p s d H Q I (k _ _ _ q)
noncomputable abbrev MO(X:Cx)(e:Option Expr)(w:WO1):Prop:=PO X e (tMO X.kx w)
theorem JS:MO X none Aa:=(JR).wk<|by intro d H Q ⟨f,m,K,R,h,fin⟩;exact fin none m H h rfl R (Frm.refl _ _)
theorem Gw(h:ME X e B):MO X (some e) (Om B):=(Jq h).wk<|by
 intro l H Q ⟨f,m,K,g,j,fin⟩;refine⟨f,m,_,g,j,λr m1 v d k n1 R rr F=>?_⟩;let⟨i,rfl,rfl,k⟩:=yV rr k;exact⟨i,rfl,fin _ m1 d k n1 R F⟩
noncomputable abbrev wSl(h:R->Option Int->Option Int->MSt->(R->Prop)->Prop)(B:WE)(f w:WO1):WE:=λm K=>B m λr m1=>f m1 λl m2=>w m2 λu d=>h r l u d λg=>K g d
theorem Bv{s w:WO1}{z:Pos}(hr:SlR X (sM X.kx ob))(V:ME X e B)(t:MO X lo s)(I:MO X hi w):ME X (.Subscript e (.Slice lo hi none z) pos) (wSl ob B s w):=(BA hr V t I).wk<|by intro U H Q ⟨g,m,Z,i,O,fin⟩;exact
 ⟨g,m,_,i,O,λr m1 v H1 k n1 R rr p=>⟨g,m1,_,R,k,λl m2 H2 P n2 d j=>⟨g,m2,_,d,P,λu q Y N T f F=>⟨g,q,U,H,r,_,f,(rr.keep i R j).keep i d F,N,λD S K W n h x=>fin D q S K W (T.trans (n2.trans n1)) n (h.base f ((p.trans j).trans F)) (((p.trans j).trans F).trans x)⟩⟩⟩⟩
end
noncomputable def agV:Nat->List Ag->List (Option R)
 |_,[]=>[]
 |k,.imm d::as=>some (.imm d)::agV k as
 |k,.own _::as=>some (.obj k)::agV (k+1) as
 |k,.tr _::as=>some (.at k [])::agV (k+1) as
noncomputable def agO:List Ag->List (List dL)
 |[]=>[]
 | .imm _::as=>agO as
 | .own ds::as=>ds::agO as
 | .tr t::as=>[t]::agO as
noncomputable def jl(n:Nat)(as:List Ag):MSt:=⟨agV 0 as++aai (n-as.length) none,agO as,(agO as).length⟩
noncomputable def outR(m:MSt):R->R
 | .imm d=>.imm d
 | .new ds=>.new ds
 | .newT t=>.newT t
 | .obj k=>if k<m.np then .obj k else .new (m.os.getD k [])
 | .at k p=>if k<m.np then .at k p else match p,m.os[k]? with
  |[],some [t]=>.newT t
  |_,_=>.at k p
theorem cZ:∀(k:Nat) (as:List Ag),(agV k as).length=as.length
 |_,[]=>rfl
 |k,.imm d::as=>by simp[agV,cZ k as]
 |k,.own _::as=>by simp[agV,cZ (k+1) as]
 |k,.tr _::as=>by simp[agV,cZ (k+1) as]
section
variable {K:Kx}{H:Hp}
theorem RelAs.facts{K:Kd}:∀{as:List Ag}{vs:List V}{β:Al}{pre:Al},RelAs K H as vs β ->
  (agO as).length=β.length/\(∀(k:Nat) (ao:Ao) (ds:List dL),β[k]?=some ao->(agO as)[k]?=some ds->OwnAt K H ao ds)/\
   ∀(i:Nat) (r:R),(agV pre.length as)[i]?=some (some r)->∃v,vs[i]?=some v/\RelS K (pre++β) H r v
 |_,_,_,_,.nil=>⟨rfl,λk a ds h=>by simp at h,λi r h=>by simp[agV]at h⟩
 | _,_,β,pre,.imm (as:=as) hd t=>by
  let⟨f,d,g⟩:=t.facts (pre:=pre);refine⟨f,d,λi r h=>?_⟩
  cases i with
  |zero=>simp[agV]at h;subst h;exact⟨_,rfl,hd⟩
  |succ i=>
   let⟨v,e,q⟩:=g i r (by simpa[agV]using h);exact⟨v,by simpa using e,q⟩
 | _,_,_,pre,.own (a:=a) (β:=β) ha t=>by
  let⟨f,d,g⟩:=t.facts (pre:=pre++[.L a]);refine⟨by simp[agO,f],λk b ds c z=>?_,λi r h=>?_⟩
  .cases k with
   |zero=>simp[agO]at c z;subst c;subst z;exact ha
   |succ k=>exact d k b ds (by simpa using c) (by simpa[agO]using z)
  .cases i with
   |zero=>simp[agV]at h;subst h;exact⟨_,rfl,a,by simp,rfl⟩
   |succ i=>
    let⟨v,e,q⟩:=g i r (by simpa[agV]using h);refine⟨v,by simpa using e,?_⟩;rw[abg]at q;exact q
 | _,_,_,pre,.tr (a:=a) (τ:=τ) (β:=β) ha el t=>by
  let⟨f,d,g⟩:=t.facts (pre:=pre++[.T τ]);refine⟨by simp[agO,f],λk b ds c z=>?_,λi r h=>?_⟩
  .cases k with
   |zero=>simp[agO]at c z;subst c;subst z;exact ha
   |succ k=>exact d k b ds (by simpa using c) (by simpa[agO]using z)
  .cases i with
   |zero=>simp[agV]at h;subst h;exact⟨_,rfl,τ,a,by simp,el,rfl⟩
   |succ i=>
    let⟨v,e,q⟩:=g i r (by simpa[agV]using h);refine⟨v,by simpa using e,?_⟩;rw[abg]at q;exact q
theorem yp{as:List Ag}(m:N.length=nN)(d:n≤nN)(l:as.length=n)(nd:(ads β).Nodup)(a:RelAs K H as vs β)(hb:K.eb.np≤(agO as).length)(j:Ext K.eb.np K.eb.be K.eb.H β H):Rel K β (jl nN as) (start N vs) H:=by
 let⟨h,b,f⟩:=a.facts (pre:=[]);have g:=a.length;refine⟨nd,by rw[<-h];rfl,b,?_,λi r e=>?_,by rw[<-h];exact Ad _,hb,j⟩
 .unfold start jl;simp only[aaj,gE,acf,cZ];omega
 .have e':(agV 0 as++aai (nN-as.length) none)[i]?=some (some r):=e
  by_cases c:i<as.length
  .rw[aaz (by rw[cZ];exact c)]at e';let⟨v,k,q⟩:=f i r e';refine⟨v,?_,by simpa using q⟩;unfold start;rw[aaz (by rw[gE];omega),GE,k];rfl
  .rw[aay (by rw[cZ];omega),afZ]at e'
   split at e'<;>cases e'
theorem uy{as:List Ag}{m:MSt}(r:RelAs K H as vs β)(c:m.np=(agO as).length)(R:Rel K α' m σ' H')(x:Ext (agO as).length β H α' H'):zR K H' β (m.os.take m.np)/\Frm β H H'/\β=α'.take (agO as).length:=by
 let⟨h,f,g⟩:=r.facts (pre:=[]);have e:α'.take (agO as).length=β:=by rw[x.pre,h,Ld]
 refine⟨⟨?_,λj a ds z b=>?_⟩,x.frm,e.symm⟩
 .have:=R.npl;rw[R.len]at this
  grind
 .rw[<-e,aaP]at z;rw[c,aaP]at b
  by_cases d:j<(agO as).length
  .rw[if_pos d]at z b;exact R.own j a ds z b
  .simp_all
theorem Jj{as:List Ag}{m:MSt}(E:m.np=(agO as).length)(R:Rel K α' m σ' H')(x:Ext (agO as).length β H α' H')(n:β=α'.take (agO as).length)(rr:RelR K α' H H' r v)
  (ok:∀k p,r = .at k p->k<m.np\/(p=[]/\∃t,m.os[k]?=some [t])):RelR K β H H' (outR m r) v:=by
 have out:∀{k:Nat}{c:Ao},¬k<m.np->α'[k]?=some c->∀b∈c.ads,H b=none:=λ{k c} h e b hb=>by
  rcases x.new b (ju e hb)with z|z
  .exfalso;rw[n]at z;let⟨j,w,f,C⟩:=ig z;rw[aaP]at f
   by_cases u:j<(agO as).length
   .rw[if_pos u]at f;exact gl R.nd e f (by omega) hb C
   .rw[if_neg u]at f;cases f
  .exact z
 have i:∀{k:Nat}{c:Ao},k<m.np->α'[k]?=some c->β[k]?=some c:=λ{k c} h e=>by
  simp_all
 cases r with
 |imm d=>exact rr
 |new ds=>exact rr
 |newT t=>exact rr
 | obj k=>
  let⟨a,e,rfl⟩:=rr;unfold outR
  by_cases h:k<m.np
  .simp only[h,if_true];exact⟨a,i h e,rfl⟩
  .simp only[h,if_false];have l:k<m.os.length:=by rw[<-R.len];exact(DL.mp e).1
   have D:m.os[k]?=some (m.os.getD k []):=by rw[Mt,iO l];rfl
   let⟨y,A,B⟩:=R.own k _ _ e D;exact⟨a,y,rfl,out h e a (aab.mpr rfl),A,B⟩
 | «at» k p=>
  let⟨s,a,e,o,rfl⟩:=rr;unfold outR
  by_cases h:k<m.np
  .simp only[h,if_true];exact⟨s,a,i h e,o,rfl⟩
  .simp only[h,if_false];rcases ok k p rfl with z|⟨rfl,t,q⟩
   .exact(h z).elim
   .rw[q];have g:=R.own k _ _ e q;exact⟨s,a,rfl,o,((fH α').mp R.nd).1 _ (oR e),out h e,g⟩
noncomputable def okR(m:MSt):R->Prop
 | .at k p=>k<m.np\/(p=[]/\∃t,m.os[k]?=some [t])
 |_=>True
theorem okR.at{m:MSt}(h:okR m r):∀k p,r = .at k p->k<m.np\/(p=[]/\∃t,m.os[k]?=some [t]):=λk p e=>by subst e;exact h
noncomputable def retK(a:R->List (List dL)->Prop)(m:MSt):R->Prop
 | .at k p=>okR m (.at k p)/\a (outR m (.at k p)) (m.os.take m.np)
 | .imm d=>a (.imm d) (m.os.take m.np)
 | .new ds=>a (.new ds) (m.os.take m.np)
 | .obj k=>a (outR m (.obj k)) (m.os.take m.np)
 | .newT t=>a (.newT t) (m.os.take m.np)
theorem retK.ok{a:R->List (List dL)->Prop}{m:MSt}(h:retK a m r):okR m r/\a (outR m r) (m.os.take m.np):=by
 cases r with
 | «at» k p=>exact h
 |imm d=>exact⟨trivial,h⟩
 |new ds=>exact⟨trivial,h⟩
 |obj k=>exact⟨trivial,h⟩
 |newT t=>exact⟨trivial,h⟩
theorem fn_m{E:XK}(o:K.eb=⟨0,[],λ_=>none⟩)(h:spOf K n sp vs H Q E)(t:N.length=nN)(g:n≤nN)
  (u:∀as c,as.length=n->sp as c->w {nx:=λm=>c (.imm .none) (m.os.take m.np),rt:=λr m=>retK c m r} (jl nN as)):tMS K w {nx:=λ_ b=>Q .non b,rt:=Q} (start N vs) H:=by
 let⟨as,p,c,l,nd,j,f,fin⟩:=h;have s:=yp t g l nd j (by rw[o];exact act _) (by rw[o];exact⟨rfl,λ_ _ z=>(by cases z),λ_ _=>.inr rfl,λa ha=>(by cases ha)⟩);refine⟨p,jl nN as,_,s,u as c l f,⟨λe y i b q d R x=>?_,λr e y i v b q d R rr x=>?_,λ_ _ _ _ z=>z.elim,λ_ _ _ _ z=>z.elim⟩⟩
 .obtain⟨O,F,_⟩:=uy j d R x;exact fin _ _ .non b q O yF F
 .obtain⟨O,F,eβ⟩:=uy j d R x;have k:=retK.ok q;exact fin _ _ v b k.2 O (Jj d R x eβ rr k.1.at) F
end
structure FnM(P:aaD)(w:World)(K:LD)(mg:Str->Option lD)(base:aaX)(x:Str)(k n:Nat)(sp:SpM):Prop where
 ex:∃(f:Addr) (fd:acV) (ps:List Str),FnOk P w K mg base CX0 k f fd ps (spOf ⟨K,w⟩ n sp)/\mg x=some (.ref f)/\adz K (.ref f)=true/\Binds K fd ps []
 ar:∀as Kc,sp as Kc->as.length=n
structure DefM(K:LD)(mg:Str->Option lD)(x:Str)(st:Stmt)(ps:List Str):Prop where
 ex:∃(f:Addr) (fd:acV),Fun K x x st f fd/\mg x=some (.ref f)/\Binds K fd ps []
theorem QH{P:aaD}{w:World}{K:LD}{base:aaX}{k:Nat}(D:DefM K mg x st ps)(S:am N ps (ac st))(o:ps.length=n)(j:N.length=nN)(d:n≤nN)(ar:∀as b,sp as b->as.length=n)
  (a:∀(c:lD) (A:aa6) (outer:List Env) (s:mT) (H:Hp) (E:XK) (f:Addr),Room k (A.deeper (ae5 x (ac st) s.heap.objs.size f c)) ->
   ∃e,MSs (cxOf CX0 P w K mg base N x (ac st) f c A outer s H E).nox (dU st) e/\∀as b,as.length=n->sp as b->e {nx:=λm=>b (.imm .none) (m.os.take m.np),rt:=λr m=>retK b m r} (jl nN as)) :
  FnM P w K mg base x (k+1) n sp:=by
 let⟨f,fd,F,l,hb⟩:=D.ex;refine⟨⟨f,fd,ps,F.ok S (λvs H Q E h=>by rw[o];exact h.len) (λc A outer s H vs Q E hr h=>?_),l,F.kp,hb⟩,ar⟩;let⟨e,i,g⟩:=a c A outer s H E f hr;exact⟨_,i,fn_m rfl h j d g⟩
section
variable {X:Cx}{a:Expr}{es:List Expr}{w:WA}{pos p:Pos}{k n:Nat}{sp:SpM}{x:Str}
theorem B9(F:FnM X.prog X.w X.K X.mg X.base x k n sp)(hr:Room k X.A)(ha:MA X (a::es) w)(e:Gl X x:=by rfl)(h:(x==("__debug__" : Str))=false:=by decide)(d:aac (a::es) X.env=(false,eval a X.env)::aac es X.env:=by first|exact ba rfl|rfl)(b:(acg pos (aac es X.env)).any (·.1)=false:=by rfl) :
  ME X (.Call (.Name x p) (a::es) [] pos) (Au sp w):=by
 let⟨f,fd,i,G,c,g,hb⟩:=F.ex;exact Jl G hr e c g hb Ql F.ar ha h d b
def Room.u200{k:Nat}{A:aa6}(r:Room k A):A.units+200<cLine:=by have:=r.un;omega
def cq:abb "len" = some (.builtin "len"):=by rfl
def DH:abb "abs" = some (.builtin "abs"):=by rfl
def Lm:abb "sum" = some (.builtin "sum"):=by rfl
def u3:abb "max" = some (.builtin "max"):=by rfl
def Oa:abb "min" = some (.builtin "min"):=by rfl
def iX:abb "repr" = some (.builtin "repr"):=by rfl
def h8:abb "tuple" = some (.type "tuple"):=by rfl
def xz:abb "int" = some (.type "int"):=by rfl
def qk:abb "enumerate" = some (.type "enumerate"):=by rfl
end
section
variable {m:MSt}{K:R->MSt->Prop}{q:Bool->MSt->Prop}{s:List R->MSt->Prop}{f:R->Prop}{D:d7}{t v C p E F:WE}{g:WA}{G H:WT}{w u:WS}{o:WO}{d:dL}{r r1 l:R}{i j:Int}{k:Nat}
theorem vp(h:w {D with nx:=λa=>u D a } m):wSeq w u D m:=h
def Ji(e:m.vs[n]?=some (some r))(h:K r m):wVar n m K:=⟨r,e,h⟩
theorem jW(h:A):if true=true then A else B:=by simp_all
theorem gH(h:B):if false=true then A else B:=by simp_all
theorem aH{c:Prop}[Decidable c](h:c->A)(a:¬c->B):if decide c=true then A else B:=by simp_all
def Sx(h:f (.imm (.int (-i)))):uNeg (.imm (.int i)) m f:=h
def QJ{rs:List R}{P:List dL->Prop}(e:gA rs=some ds)(a:ds.length≤aad)(h:P ds):F8 P (gA rs):=by rw[e];exact⟨a,h⟩
def LQ(h:g m λrs m1=>match im m1 rs with|some (as,ks)=>ks.Nodup/\sp as λr a=>K (mapR ks r) {m1 with os:=cu m1.os ks a}|none=>False):Au sp g m K:=h
def QY{rs:List R}{as:List Ag}{P:List Ag->List Nat->Prop}(e:im m rs=some (as,ks))(a:ks.Nodup)(h:P as ks):match im m rs with|some (as,ks)=>ks.Nodup/\P as ks|none=>False:=by rw[e];exact⟨a,h⟩
def MJ(h:p m λr a=>pq n D.nx a r):wSet n p D m:=h
def cB(h:P (m.setV n (.imm d))):pq n P m (.imm d):=.inl h
theorem cE(h:P {vs:=m.vs.set n (some (.obj m.os.length)),os:=m.os++[ds],np:=m.np}):pq n P m (.new ds):=.inl (.inl h)
def Qq{n':Nat}(h:g m λrs a=>match rs with|[.imm d1,.imm d2]=>D.nx ((a.setV n (.imm d1)).setV n' (.imm d2))|_=>False):wPar n n' g D m:=h
def Su{k:Nat}{z:Int}{P:List dL->Nat->Prop}(a:m.os[k]?=some ds)(e:ixN ds.length z=some n)(h:P ds n):∃ds j,m.os[k]?=some ds/\ixN ds.length z=some j/\P ds j:=⟨ds,n,a,e,h⟩
def x_ls{P:Prop}(e:lsOf m r=some ds)(h:P):(∃ds,lsOf m r=some ds)/\P:=⟨⟨ds,e⟩,h⟩
theorem jC(e:m.os[k]?=some ds)(a:ds.length<aad)(h:K (.imm .none) {m with os:=m.os.set k (ds++[d])}):yi (.obj k) [.imm d] m K:=⟨ds,e,a,h⟩
def KM(h:f (.imm (.int (i+j)))):oAdd (.imm (.int i)) (.imm (.int j)) m f:=h
def kL{a b:List dL}(c:a.length+b.length≤aad)(h:f (.imm (.tuple (a++b)))):oAdd (.imm (.tuple a)) (.imm (.tuple b)) m f:=⟨c,h⟩
def Ng(h:f (.imm (.int (i-j)))):oSub (.imm (.int i)) (.imm (.int j)) m f:=⟨trivial,h⟩
def iG(a:CFd i j)(h:f (.imm (.int (i/j)))):KG (.imm (.int i)) (.imm (.int j)) m f:=⟨a,h⟩
def Gn(a:0<j)(h:f (.imm (.int (i%j)))):oMod (.imm (.int i)) (.imm (.int j)) m f:=⟨a,h⟩
def Qz(a:CPow i j)(h:f (.imm (.int (i^j.toNat)))):oPow (.imm (.int i)) (.imm (.int j)) m f:=⟨a,h⟩
def x_lt(h:f (.imm (.bool (decide (i<j))))):oLt (.imm (.int i)) (.imm (.int j)) m f:=h
def x_gt(h:f (.imm (.bool (decide (j<i))))):oGt (.imm (.int i)) (.imm (.int j)) m f:=h
def x_ge(h:f (.imm (.bool (decide (j≤i))))):oGe (.imm (.int i)) (.imm (.int j)) m f:=h
def x_eq{a b:dL}(e:asD m r1=some a)(c:asD m l=some b)(s1:aej a=true)(s2:aej b=true)(h:f (.imm (.bool (aah a b)))):oEq r1 l m f:=by refine agN ?_;unfold eqD;rw[e,c];exact⟨s1,s2,h⟩
def x_ne{a b:dL}(e:asD m r1=some a)(c:asD m l=some b)(s1:aej a=true)(s2:aej b=true)(h:f (.imm (.bool (!aah a b)))):oNe r1 l m f:=by refine agN ?_;unfold eqD;rw[e,c];exact⟨s1,s2,h⟩
theorem Qi(h:f (.imm (.bool (decide (i=j))))):oEq (.imm (.int i)) (.imm (.int j)) m f:=x_eq rfl rfl rfl rfl ‹_›
def Qx(h:f (.imm (.bool (decide (i≠j))))):oNe (.imm (.int i)) (.imm (.int j)) m f:=x_ne rfl rfl rfl rfl (by simp[aah];rw[aew,<-decide_not];exact h)
def QM(h:f (.imm (.bool (decide (x=y))))):oEq (.imm (.str x)) (.imm (.str y)) m f:=ada (agN ⟨x,y,rfl,rfl,h⟩)
def RH(h:f (.imm (.bool (!decide (x=y))))):oNe (.imm (.str x)) (.imm (.str y)) m f:=ada ⟨x,y,rfl,rfl,h⟩
def AG(h:f (.imm (.bool (!isNone r)))):y8 r (.imm .none) m f:=⟨rfl,h⟩
def aE(e:atI ds i=some d)(h:f (.imm d)):qz (.imm (.tuple ds)) (.imm (.int i)) m f:=⟨d,e,h⟩
def t3(e:atI ds i=some d)(h:f (.imm d)):qz (.imm (.list ds)) (.imm (.int i)) m f:=⟨ds,d,rfl,e,h⟩
def ml(a:m.os[k]?=some ds)(e:atI ds i=some d)(h:f (.imm d)):qz (.obj k) (.imm (.int i)) m f:=⟨ds,d,a,e,h⟩
def fZ(e:atI ds i=some d)(h:f (.imm d)):qz (.new ds) (.imm (.int i)) m f:=⟨ds,d,rfl,e,h⟩
def L4(h:f (.imm (.int ds.length))):lenR m f (.imm (.tuple ds)):=h
def KU(h:f (.imm (.int ds.length))):lenR m f (.imm (.list ds)):=⟨ds,rfl,h⟩
def OL(e:m.os[k]?=some ds)(h:f (.imm (.int ds.length))):lenR m f (.obj k):=⟨ds,e,h⟩
def PH(h:f (.imm (.int ds.length))):lenR m f (.new ds):=⟨ds,rfl,h⟩
def Gq(e:sqOf m r=some ds)(h:f (.imm (.tuple ds))):FC [r] m f:=⟨ds,e,h⟩
def Lr(e:asD m r=some d)(b:d.showable=true)(a:d.hasDict=false)(c:d.shown.length≤aad)(n:d.depth≤100)(h:f (.imm (.str d.shown))):IY [r] m f:=⟨d,e,b,a,c,n,h⟩
def L8(h:P m):FU [] m P:=⟨rfl,h⟩
def Ll(e:ds.length=n)(h:gs ds m P):CU n gs (.tuple ds) m P:=⟨e,h⟩
def Ow(h:Ks ⟨ds,none⟩ m):srcR m Ks (.imm (.list ds)):=h
def OA(h:Ks ⟨ds,none⟩ m):srcR m Ks (.imm (.tuple ds)):=h
def Kj(e:m.os[k]?=some ds)(h:Ks ⟨ds,some k⟩ m):srcR m Ks (.obj k):=⟨ds,e,h⟩
end
def ai{D:d7}{m:MSt}(a:MSt)(e:m=a)(h:w D a):w D m:=e▸h
theorem Qj{i j:Int}(h:(-18446744073709551616<i/\i<18446744073709551616)\/(-18446744073709551616<j/\j<18446744073709551616)):afY i j:=CMul.ok ‹_›
def cfd{i j:Int}(h0:0<j)(h:j<1152921504606846976):CFd i j:=⟨h0,by
 have:j.natAbs<2^60:=by omega
 have:=(agP (by omega)).mpr this;omega⟩
theorem ki:∀ns:List Int,aa3 (ns.map .int)=true
 |[]=>rfl
 |n::ns=>by simp[ aa3,ah7,ki ns]
theorem lJ:∀ns:List Int,aaq (ns.map .int)≤1
 |[]=>act 1
 |n::ns=>by
  have:=lJ ns;simp[aaq,dL.depth];omega
theorem KI{a:Type}{xs:List a}{i:Int}(h0:0≤i)(b:i<xs.length):∃d,xs[i.toNat]?=some d/\atI xs i=some d:=by
 have h:i.toNat<xs.length:=by omega
 refine⟨xs[i.toNat],iO h,?_⟩;unfold atI ixN
 simp_all
theorem Cr{i:Int}(h0:0≤i)(a:i<ns.length):∃x:Int,atI (ns.map abi) i=some (.int x):=by
 let⟨d,e,h⟩:=KI (xs:=ns.map abi) h0 (by simp_all);rw[GE]at e
 cases q:ns[i.toNat]? with
 |none=>rw[q]at e;cases e
 |some x=>rw[q]at e;cases e;exact⟨x,h⟩
section
variable {X:Cx}{tg a b c e:Expr}{es:List Expr}{w f g j k l:WE}{m:WA}{pos p o:Pos}
noncomputable def du:List dL->Option (List Int)
 |[]=>some []
 | .int i::ds=>(du ds).map (i :: ·)
 |_::_=>none
theorem i9(h:du ds=some ns):ds=ns.map .int:=by
 induction ds generalizing ns with
 |nil=>cases h;rfl
 | cons d ds n=>
  cases d with
  |int i=>
   simp only[du]at h
   cases q:du ds with
   |none=>rw[q]at h;cases h
   |some r=>rw[q]at h;cases h;rw[n q];rfl
  |none=>cases h
  |bool _=>cases h
  |str _=>cases h
  |list _=>cases h
  |tuple _=>cases h
  |dict _=>cases h
theorem fo:∀ns:List Int,du (ns.map .int)=some ns
 |[]=>rfl
 |n::ns=>by simp[ du,fo ns]
theorem fe{K:Kd}{H:Hp}:∀{ns:List Int}{xs:List V},DenAll K H (ns.map .int) xs->xs=ns.map V.int
 |[],_,h=>by simpa only[ DenAll]
 |n::ns,_,h=>by
  let⟨v,vs,rfl,i,d⟩:=h;have e:=aM i;rw[e,fe d];rfl
end
theorem d6{D:d7}(P:Nat->MSt->Prop)(p0:P 0 m1)
  (step:∀(i:Nat) (d:dL) (m:MSt),ds[i]?=some d->m.np=m1.np->P i m->g d m λm2=>w {nx:=P (i+1),ct:=P (i+1),bk:=λf=>D.nx (f.setN m1.np),rt:=λr f=>D.rt r (f.setN m1.np)} m2)
  (fin:∀m,m.np=m1.np->P ds.length m->D.nx m):lw ⟨ds,none⟩ g w D m1:=by
 refine⟨P,p0,λi d m e n p=>⟨trivial,step i d m e n p⟩,λm n p=>⟨trivial,?_⟩⟩;have e:m.setN m1.np=m:=by
  let⟨a,b,c⟩:=m;have h:c=m1.np:=n;subst h;rfl
 rw[e];exact fin m n p
theorem je{k:Nat}{D:d7}(P:Nat->MSt->Prop)(p0:P 0 (m1.setN (max m1.np (k+1))))
  (ok:∀i m,P i m->m.os[k]?=some ds)
  (step:∀(i:Nat) (d:dL) (m:MSt),ds[i]?=some d->m.np=max m1.np (k+1)->P i m->g d m λm2=>w {nx:=P (i+1),ct:=P (i+1),bk:=λa=>D.nx (a.setN m1.np),rt:=λr a=>D.rt r (a.setN m1.np)} m2)
  (fin:∀m,m.np=max m1.np (k+1)->P ds.length m->D.nx (m.setN m1.np)):lw ⟨ds,some k⟩ g w D m1:=
 ⟨P,p0,λi d m e n p=>⟨ok i m p,step i d m e n p⟩,λm n p=>⟨ok _ m p,fin m n p⟩⟩
def oy{t:WT}{D:d7}{a:MSt}(P:Nat->MSt->Prop)(b:Nat)(p0:P b a)
  (step:∀n m,m.np=a.np->P n m->t m λc d=>if c=true then w {D with nx:=λm2=>∃n',n'<n/\P n' m2,ct:=λm2=>∃n',n'<n/\P n' m2,bk:=D.nx} d else D.nx d):xl t w D a:=⟨P,⟨b,p0⟩,step⟩
def Cy(h:ds.length≤n):cutD ds none (some (n:Int))=ds:=by
 unfold cutD;rw[HT.sIx_none,HT.sIx_nat,Nat.min_eq_right h,Nat.sub_zero,afs,Ld]
theorem md{k:Nat}{m:MSt}(b:m.vs[n]?=some (some (.obj k)))(a:m.np≤k)(c:∀j:Nat,j≠n->m.vs[j]?≠some (some (.obj k)))(h:P {m with os:=m.os.set k ds}):pq n P m (.new ds):=.inr ⟨k,b,a,c,h⟩
theorem bh{a:Type}{xs:List a}{k:Nat}{d x:a}(h:xs[k]?=some x):xs.getD k d=x:=by simp_all
theorem x_JS{m:MSt}{D:d7}(b:MSt->Prop)(h:∀N:MSt->Prop,(∀a,b a->N a)->w {D with nx:=N} m)(J:∀a,b a->D.nx a):w D m:=h D.nx J
structure Fine(n k:Nat)(d:dL):Prop where
 sh:d.showable=true
 nd:d.hasDict=false
 ln:d.shown.length≤n
 dp:d.depth≤k
def Fine.mono{k n' k':Nat}{d:dL}(h:Fine n k d)(b:n≤n')(a:k≤k'):Fine n' k' d:=⟨h.sh,h.nd,aak h.ln b,aak h.dp a⟩
def xU(b:Bool):Fine 5 0 (.bool b):=⟨rfl,rfl,by cases b<;>decide,Ad _⟩
theorem vy{k:Nat}(h:n<2^k)(a:0<k):n.log2<k:=by
 by_cases h0:n=0
 .simp_all
 .rw[agP h0];exact h
def ik{i:Int}(h:i.natAbs<10^12):Fine 13 0 (.int i):=by
 refine⟨?_,rfl,dL.shown_int_le h,Ad _⟩;have:i.natAbs.log2<40:=vy (aan h (by decide)) (by decide);apply decide_eq_true;omega
theorem uV{n k:Nat}:∀{ds:List dL},(∀d∈ds,Fine n k d)->aho ds=true/\acx ds=false/\((ado ds).map (·.length)).sum≤ds.length*n/\(ado ds).length=ds.length/\aaq ds≤k
 |[],_=>⟨rfl,rfl,by simp[ado],rfl,by simp[aaq]⟩
 |d::ds,h=>by
  let⟨c,a,i,f,g⟩:=uV λb e=>h b (Ge _ e);have h0:=h d Io;refine⟨?_,?_,?_,?_,?_⟩
  .show(d.showable&&aho ds)=true;rw[h0.sh,c];rfl
  .show(d.hasDict||acx ds)=false;rw[h0.nd,a];rfl
  .show(d.shown.length::(ado ds).map _).sum≤_;rw[aco,aaG,afi];have:=h0.ln;omega
  .show(ado ds).length+1=_;rw[f];rfl
  .show max d.depth _≤k;have:=h0.dp;omega
theorem bj{k c:Nat}(h:∀d∈ds,Fine n k d)(f:ds.length≤c):Fine (c*(n+2)+3) (k+1) (.tuple ds):=by
 let⟨b,a,i,j,g⟩:=uV h;refine⟨b,a,?_,?_⟩
 .show(tupleText _).length≤_;have:=tupleText_len_le (ado ds);have e:ds.length*(n+2)≤c*_:=adD _ f
  grind
 .show aaq ds+1≤_;omega
structure Shp(k:Nat)(d:dL):Prop where
 cl:d.canLay0=true
 dp:d.depth≤k
def fj(i:Int):Shp 0 (.int i):=⟨rfl,Ad _⟩
theorem lg{k:Nat}:∀{ds:List dL},(∀d∈ds,Shp k d)->aa3 ds=true/\aaq ds≤k
 |[],_=>⟨rfl,by simp[aaq]⟩
 |d::ds,h=>by
  let⟨b,e⟩:=lg λa c=>h a (Ge _ c);have h0:=h d Io;refine⟨?_,?_⟩
  .simp only[aa3];rw[h0.cl,b];rfl
  .show max d.depth _≤k;have:=h0.dp;omega
theorem yz{k:Nat}(h:∀d∈ds,Shp k d):Shp (k+1) (.tuple ds):=by
 let⟨a,b⟩:=lg h;exact⟨by simp[ah7];exact a,by show aaq ds+1≤_;omega⟩
def jb{m:MSt}{d:dL}{K:R->Prop}{k:Nat}(h:Fine n k d)(e:asD m r=some d)(c:n≤16777216)(b:k≤100)(a:K (.imm (.str d.shown))):IY [r] m K:=Lr e h.sh h.nd (by rw[aag];exact aak h.ln c) (aak h.dp b) a
theorem vT(b:Only H)(h:SqL K H a (ns.map V.int)):Den K H (.list (ns.map .int)) (.ref a):=by
 refine⟨a,_,rfl,?_,DenAll.ints _⟩;rcases h with(h|⟨o,h⟩)|h
 .rcases b a with z|_
  .grind
  .grind
 .exact .inl ⟨o,h⟩
 .exact .inr h
theorem K9{P:aaD}{w:World}{K:LD}{base:aaX}{k:Nat}(F:Fun K x x st f fd)(S:am N ps (ac st))(l:ps.length=n)(j:N.length=nN)(b:n≤nN)
  (a:∀(c:lD) (A:aa6) (outer:List Env) (s:mT) (H:Hp) (E:XK) (f:Addr),Room k (A.deeper (ae5 x (ac st) s.heap.objs.size f c)) ->
   ∃d,MSs (cxOf CX0 P w K mg base N x (ac st) f c A outer s H E).nox (dU st) d/\∀as e,as.length=n->sp as e->d {nx:=λm=>e (.imm .none) (m.os.take m.np),rt:=λr m=>retK e m r} (jl nN as)) :
  FnOk P w K mg base CX0 (k+1) f fd ps (spOf ⟨K,w⟩ n sp):=by
 refine F.ok S (λvs H Q E h=>by rw[l];exact h.len) (λc A outer s H vs Q E hr h=>?_);let⟨d,i,g⟩:=a c A outer s H E f hr;exact⟨_,i,fn_m rfl h j b g⟩
structure DefK(K:LD)(x:Str)(st:Stmt):Prop where
 ex:∃(f:Addr) (fd:acV),abl K aaK x=some (some (.ref f))/\Fun K x x st f fd
def DefK.of{K:LD}{o kV d pm b ct:lD}{an:Option Addr}{s:Array (Option lD)}(a:abl K aaK x=some (some (.ref f)))
  (l:K.lookup f=some ⟨o,od,.func (adH x x (kO st) (dU st) (ac st) .none kV d pm an b ct),s⟩) (c:afp K b x=true) (k:adz K (.ref f)=true):DefK K x st:=⟨f,_,a,Lu l c k⟩
theorem DefK.m{K:LD}{h:aaX}(D:DefK K x st)(X:K.In h)(G:h.Ns aaK mg)(b:∀(f:Addr) (fd:acV),Fun K x x st f fd->Binds K fd ps []):DefM K mg x st ps:=by
 let⟨f,fd,a,F⟩:=D.ex;exact⟨f,fd,F,ahh X G a,b f fd F⟩
structure EE(X:Cx)(e:Expr)(w:WE):Prop where
 h:ME X e w
structure ET(X:Cx)(e:Expr)(w:WT):Prop where
 h:MT X e w
structure EW(X:Cx)(e:Expr)(w:WT):Prop where
 h:MW X e w
structure EA(X:Cx)(es:List Expr)(w:WA):Prop where
 h:MA X es w
structure ES(X:Cx)(st:Stmt)(w:WS):Prop where
 h:MS X st w
structure ESs(X:Cx)(st:List Stmt)(w:WS):Prop where
 h:MSs X st w
structure EI(X:Cx)(tg e:Expr)(w:WI):Prop where
 h:MI X tg e w
structure EG(X:Cx)(t:Expr)(w:WG):Prop where
 h:MG X t w
structure EGs(X:Cx)(ts:List Expr)(w:WGs):Prop where
 h:MGs X ts w
structure EO(X:Cx)(e:Option Expr)(w:WO1):Prop where
 h:MO X e w
structure ETs(X:Cx)(ifs:List Expr)(w:WT):Prop where
 h:PTs X ifs (tMT X.kx w)
def EW.pt{w:WT}(h:EW X e w):ET X e w:=⟨h.h.pt⟩
section
variable {X:Cx}{a b c:Expr}{es:List Expr}{w d e:WE}{pos:Pos}
def mh'{i j pos}:EE X (.Constant (.int i) j pos) (wC (.int i)):=⟨Mi⟩
def xm{i j pos}:EE X (.Constant (.bool i) j pos) (wC (.bool i)):=⟨QQ⟩
def aK{i j pos}:EE X (.Constant (.str i) j pos) (wC (.str i)):=⟨Kg⟩
def uc{j pos}:EE X (.Constant .none j pos) (wC .none):=⟨NH⟩
theorem mv'(i:Nat){pos:Pos}(g:X.N[i]?=some x:=by rfl)(f:Vis X.env.scope x:=by first|exact agN rfl|exact ada (agN rfl)|exact ada (ada rfl))(hd:(x==("__debug__" : Str))=false:=by decide)(h:(x==("__classdict__" : Str))=false:=by decide):EE X (.Name x pos) (wVar i):=⟨mv i g f hd h⟩
def ae{op:Operator}(ho:OpR X (acs op) (rM X.kx o))(ha:EE X a w)(hb:EE X b d):EE X (.BinOp a op b pos) (wBin o w d):=⟨L7 ho ha.h hb.h⟩
def jd(ho:OpR X (abR op) (rM X.kx o))(ha:EE X a w)(hb:EE X b d)(h:ac4 op b=false):EE X (.Compare a [op] [b] pos) (wBin o w d):=⟨Nk ho ha.h hb.h h⟩
def av(ho:OpR X (abR op) (rM X.kx o))(ha:EE X a w)(hb:EE X b d)(h:ac4 op b=false):ET X (.Compare a [op] [b] pos) (yG (wBin o w d)):=⟨LM ho ha.h hb.h h⟩
def t6(ha:EE X a w)(h:∀f,isTrue a X.env f=(do let v <- f;adw a.pos;adx [v] (truthy v)):=by intro _;rfl):ET X a (yG w):=⟨LZ ha.h h⟩
end
section
variable {X:Cx}{a b c:Expr}{es:List Expr}{d f g:WE}{pos:Pos}
variable {w e:WT}{rest:List Expr}
def ot(ha:ET X a w):EW X (.BoolOp .And [a] pos) w:=⟨JD ha.h⟩
def yZ(ha:ET X a w):EW X (.BoolOp .Or [a] pos) w:=⟨OX ha.h⟩
def jV(ha:ET X a w)(hb:EW X (.BoolOp .And (b::rest) pos) e):EW X (.BoolOp .And (a::b::rest) pos) (wAnd w e):=⟨Nu ha.h hb.h⟩
def za(ha:ET X a w)(hb:EW X (.BoolOp .Or (b::rest) pos) e):EW X (.BoolOp .Or (a::b::rest) pos) (wOr w e):=⟨Qw ha.h hb.h⟩
def JM(ha:ET X a w):ET X (.UnaryOp .Not a pos) (wNot w):=⟨Po ha.h⟩
def jX{op:UnaryOp}{o:WU}(ho:UnR X (unaryOp op) (uM X.kx o))(ha:EE X a d):EE X (.UnaryOp op a pos) (wUn o d):=⟨Si ho ha.h⟩
def fz(ha:EE X a d):EE X a (wImm d):=⟨OJ ha.h⟩
end
section
variable {X:Cx}{a b c:Expr}{es:List Expr}{d e f:WE}{pos:Pos}
variable {g i:WT}{rest:List Expr}
variable {w:WA}
def mn'  : EA X [] wNil:=⟨Oo⟩
def mc'(ha:EE X a d)(hr:EA X es w)(hs:aac (a::es) X.env=(false,eval a X.env)::aac es X.env:=by first|exact ba rfl|rfl):EA X (a::es) (LL d w):=⟨Gj ha.h hr.h hs⟩
def af{x1}(h:EA X es w):EE X (.Tuple es x1 pos) (wTup w):=⟨Ki h.h⟩
def bZ(h:EA X es w):EE X (.List es pos) (wLst w):=⟨Ku h.h⟩
theorem ap{id:String}{o:WC}(l:di X (.builtin id) (cM X.kx o))(r:Gl X x)(k:X.mg x=none)(m:abb x=some (.builtin id))(ha:EA X (a::es) w)(q:x ≠ "__name__":=by decide)(j:(x==("__debug__" : Str))=false:=by decide)(n:aac (a::es) X.env=(false,eval a X.env)::aac es X.env:=by first|exact ba rfl|rfl)(h:(acg pos (aac es X.env)).any (·.1)=false:=by rfl):EE X (.Call (.Name x p) (a::es) [] pos) (wCB o w):=⟨BV l r k m ha.h q j n h⟩
theorem cp{T:String}{o:WC}(l:di X (.type T) (cM X.kx o))(r:Gl X x)(k:X.mg x=none)(m:abb x=some (.type T))(ha:EA X (a::es) w)(q:x ≠ "__name__":=by decide)(j:(x==("__debug__" : Str))=false:=by decide)(n:aac (a::es) X.env=(false,eval a X.env)::aac es X.env:=by first|exact ba rfl|rfl)(h:(acg pos (aac es X.env)).any (·.1)=false:=by rfl):EE X (.Call (.Name x p) (a::es) [] pos) (wCB o w):=⟨zg l r k m ha.h q j n h⟩
end
section
variable {X:Cx}{a b c e:Expr}{es:List Expr}{d f g h:WE}{pos:Pos}{st:Stmt}{rest:List Stmt}{w u:WS}
def aw  : ESs X [] Lh:=⟨JG⟩
def mz'(i:ES X st w)(j:ESs X rest u):ESs X (st::rest) (wSeq w u):=⟨Cw i.h j.h⟩
def aa(i:ES X st w):ESs X [st] w:=⟨IU i.h⟩
end
section
variable {X:Cx}{a b c e:Expr}{es:List Expr}{p q r f:WE}{m:WA}{o:WT}{pos:Pos}{st:Stmt}{rest l d:List Stmt}{w u:WS}
def ah(h:EE X e f):ES X (.Return (some e) pos) (wRet f):=⟨L9 h.h⟩
def fc(h:EE X e f)(hs:abQ e none pos.line X.env=pure false:=by rfl):ES X (.Expr e pos) (OM f):=⟨Gi h.h hs⟩
def bc(g:ET X t o)(h:ESs X l w)(i:ESs X d u):ES X (.If t l d pos) (wIfS o w u):=⟨Sk g.h h.h i.h⟩
def AB  : ES X st Fy:=⟨Bu⟩
theorem cP(k:X.N.Nodup)(hi:X.N[i]?=some x)(h:Loc X.env.scope x)(j:EE X e f)(hs:abQ e (some (.Name x pos')) pos.line X.env=pure false:=by rfl)(g:X.fn x=true\/X.env.scope.names.lookup x=some .local:=by first|exact .inl rfl|exact .inr rfl|assumption):ES X (.Assign [.Name x pos'] e pos) (wSet i f):=⟨LU k hi h j.h hs g⟩
theorem n6(j:X.N.Nodup)(hi:X.N[i]?=some x)(h:Loc X.env.scope x)(g:X.fn x=true\/X.env.scope.names.lookup x=some .local:=by first|exact .inl rfl|exact .inr rfl|assumption):EG X (.Name x pos) (gM i):=⟨Ij j hi h g⟩
def aY  : EGs X [] FU:=⟨FY⟩
def ag{e:Expr}{es:List Expr}(i:EG X e g)(h:EGs X es gs)(hs:(abG (e::es) X.env).map (·.2)=ad5 e X.env::(abG es X.env).map (·.2):=by rfl):EGs X (e::es) (Fu g gs):=⟨Bo i.h h.h hs⟩
theorem bo{es:List Expr}{k:Nat}(h:EGs X es gs)(i:X.calm=true:=by rfl)(j:(abG es X.env).length=n:=by rfl)(g:(abG es X.env).findIdx? (·.1)=none:=by rfl):EG X (.Tuple es k pos) (CU n gs):=⟨Nr h.h i j g⟩
theorem cC(j:EE X e f)(h:EG X tg g)(hs:ac2 [tg] e pos.line X.env=pure false:=by rfl)(k:ac3 [tg] e X.env=pure none:=by rfl)(i:(abG [tg] X.env).map (·.2)=[ad5 tg X.env]:=by rfl):ES X (.Assign [tg] e pos) (wAsg f g):=⟨JZ j.h h.h hs k i⟩
theorem j7{g k pt:Pos}{kt k2 pt2}(A:X.N.Nodup)(hi:X.N[i]?=some x)(v:X.N[j]?=some y)(h:i≠j)(t:X.env.scope.names.lookup x=some .local)(z:X.env.scope.names.lookup y=some .local)(ha:EA X [a,b] m)(s:ac3 [.Tuple [.Name x g,.Name y k] kt pt] (.Tuple [a,b] k2 pt2) X.env=pure (some [x,y]))(n:X.calm=true:=by rfl)(hs:ac2 [.Tuple [.Name x g,.Name y k] kt pt] (.Tuple [a,b] k2 pt2) pos.line X.env=pure false:=by rfl):ES X (.Assign [.Tuple [.Name x g,.Name y k] kt pt] (.Tuple [a,b] k2 pt2) pos) (wPar i j m):=⟨KW A hi v h t z ha.h s n hs⟩
end
section
variable {X:Cx}{tg a b c e i:Expr}{es:List Expr}{l m n h:WE}{j:WA}{k:WT}{pos:Pos}{st:Stmt}{rest d f:List Stmt}{w u:WS}
def bC(g:EE X e h):EI X tg e (NU h):=⟨OZ g.h⟩
theorem bv(g:Gl X "range")(o:X.mg "range" = none)(ha:EA X [a] j)(hs:aac [a] X.env=[(false,eval a X.env)]:=by first|exact cy rfl|rfl):EI X tg (.Call (.Name "range" p) [a] [] pos) (FM j):=⟨yP g o ha.h hs⟩
theorem bq{o:WI}(hi:EI X tg i o)(q:EG X tg g)(hb:ESs X d w)(hp:afX (model X.prog X.w) X.A X.env X.xe)(p:X.calm=true:=by rfl)(hs:∀x,aaL i X.env x=pure x:=by intro _;rfl):ES X (.For tg i d [] pos) (wFor o g w):=⟨J6 hi.h q.h hb.h hp p hs⟩
def ii(g:ET X t k)(hb:ESs X d w)(hp:afX (model X.prog X.w) X.A X.env X.xe):ES X (.While t d [] pos) (xl k w):=⟨AI g.h hb.h hp⟩
end
section
variable {X:Cx}{scope sc:Scope}{own fr:List Str}{ps:List Nat}{elt tg a f b:Expr}{ifs e:List Expr}{pos d p:Pos}{w k:WI}{g m:WG}{tt l:WT}{j:WE}
theorem ce(S:bW own fr scope sc)(hi:EI X tg a w)(q:∀cl s H C ex,EG (aU X scope cl (own++fr) s H C ex) tg g)(r:∀cl s H C ex,ETs (aU X scope cl (own++fr) s H C ex) ifs tt)(o:∀cl s H C ex,EE (aU X scope cl (own++fr) s H C ex) elt j)(h:X.env.scope=sc:=by rfl)(c:ps.map (λi=>X.N[i]?)=fr.map some:=by rfl)(n:X.calm=true:=by rfl)(hs:∀x,aaL a X.env x=pure x:=by intro _;rfl):EE X (.ListComp elt [⟨tg,a,ifs,0⟩] scope pos) (pk w own ps g tt j):=⟨Cf S hi.h (λcl s H C ex=>(q cl s H C ex).h) (λcl s H C ex=>(r cl s H C ex).h) (λcl s H C ex=>(o cl s H C ex).h) h c n hs⟩
def cv  : ETs X [] yd:=⟨IL⟩
def uY{t:WT}(h:ET X c t):ETs X [c] t:=⟨F9 h.h⟩
theorem wn(S:bW own fr scope sc)(r:X.N.Nodup)(z:X.N[i]?=some y)(h:X.env.scope.names.lookup y=some .local)(hi:EI X tg a w)(q:∀cl s H C ex,EG (aU X scope cl (own++fr) s H C ex) tg g)(v:∀cl s H C ex,ETs (aU X scope cl (own++fr) s H C ex) ifs tt)(u:∀cl s H C ex,EE (aU X scope cl (own++fr) s H C ex) elt j)(o:abQ (.ListComp elt [⟨tg,a,ifs,0⟩] scope pos) (some (.Name y p)) d.line X.env=pure true:=by rfl)(n:X.env.scope=sc:=by rfl)(c:ps.map (λi=>X.N[i]?)=fr.map some:=by rfl)(t:X.calm=true:=by rfl)(hs:∀x,aaL a X.env x=pure x:=by intro _;rfl):ES X (.Assign [.Name y p] (.ListComp elt [⟨tg,a,ifs,0⟩] scope pos) d) (wSet i (pk w own ps g tt j)):=⟨CN S r z h hi.h (λcl s H C ex=>(q cl s H C ex).h) (λcl s H C ex=>(v cl s H C ex).h) (λcl s H C ex=>(u cl s H C ex).h) o n c t hs⟩
theorem zu(S:bW own fr scope sc)(v:X.N.Nodup)(D:X.N[i]?=some y)(c:X.env.scope.names.lookup y=some .local)(hi:EI X tg a w)(u:∀cl s H C ex,EG (aU X scope cl (own++fr) s H C ex) tg g)(B:∀cl s H C ex,ETs (aU X scope cl (own++fr) s H C ex) ifs tt)(hi2:∀cl s H C ex,EI (aU X scope cl (own++fr) s H C ex) f b k)(r:∀cl s H C ex,EG (aU X scope cl (own++fr) s H C ex) f m)(o:∀cl s H C ex,ETs (aU X scope cl (own++fr) s H C ex) e l)(A:∀cl s H C ex,EE (aU X scope cl (own++fr) s H C ex) elt j)(t:abQ (.ListComp elt [⟨tg,a,ifs,0⟩,⟨f,b,e,0⟩] scope pos) (some (.Name y p)) d.line X.env=pure true:=by rfl)(q:X.env.scope=sc:=by rfl)(n:ps.map (λi=>X.N[i]?)=fr.map some:=by rfl)(z:X.calm=true:=by rfl)(hs:∀x,aaL a X.env x=pure x:=by intro _;rfl)(h:∀cl C x,aaL b (agL scope cl C X.env) x=pure x:=by intro _ _ _;rfl):ES X (.Assign [.Name y p] (.ListComp elt [⟨tg,a,ifs,0⟩,⟨f,b,e,0⟩] scope pos) d) (wSet i (wj w own ps g tt k m l j)):=⟨Ck S v D c hi.h (λcl s H C ex=>(u cl s H C ex).h) (λcl s H C ex=>(B cl s H C ex).h) (λcl s H C ex=>(hi2 cl s H C ex).h) (λcl s H C ex=>(r cl s H C ex).h) (λcl s H C ex=>(o cl s H C ex).h) (λcl s H C ex=>(A cl s H C ex).h) t q n z hs h⟩
end
section
variable {X:Cx}
theorem ab{a b:Expr}{w c:WE}(ha:EE X a w)(hb:EE X b c)(hs:rq b:=by intro _ _;rfl):EE X (.Subscript a b pos) (wBin qz w c):=⟨Qy ha.h hb.h hs⟩
end
section
variable {X:Cx}{o a b c e:Expr}{es:List Expr}{g k l m w h:WE}{j:WA}{pos f d:Pos}
theorem jt{name:Str}{id:String}{s:WM}(slot:Slot "list" name id)(r:typeOf (.builtin id)=pure (.type "method_descriptor"))(t:MtM X id (mM X.kx s))(ho:EE X o g)(ha:EA X (e::es) j)(n:abz o name X.env (eval o X.env)=eval o X.env:=by rfl)(q:((acg d (aac (e::es) X.env)).all (λx=>!x.1)&&(afq d (adB [] X.env)).all (λx=>x.1.isSome)
   && decide ((e::es).length+([]:List ade).length+(if ([]:List ade).isEmpty then 0 else 1)<30))=true:=by rfl) (p:(f.endLine==d.line)=true:=by rfl) (hs:aac (e::es) X.env=(false,eval e X.env)::aac es X.env:=by first|exact ba rfl|rfl) (i:(acg d (aac es X.env)).any (·.1)=false:=by rfl):EE X (.Call (.Attribute o name f) (e::es) [] d) (wML s g j):=⟨Sy slot r t ho.h ha.h n q p hs i⟩
theorem ow{b i:Expr}(n:EE X e w)(ho:EE X b g)(hi:EE X i h)(hs:ac2 [.Subscript b i pos'] e pos.line X.env=pure false:=by rfl)(p:ac3 [.Subscript b i pos'] e X.env=pure none:=by rfl)(q:(abG [.Subscript b i pos'] X.env).map (·.2)=[ad5 (.Subscript b i pos') X.env]:=by rfl)(ha:∀v,ad5 (.Subscript b i pos') X.env v=(do
   let ov <- adx [v] (eval b X.env)
   let iv <- adx [v,ov] (eval i X.env)
   adw pos'
   adx [v,ov,iv] (ahx ov iv v)
   release [v,ov,iv] []):=by intro _;rfl):ES X (.Assign [.Subscript b i pos'] e pos) (Qc w g h):=⟨IZ n.h ho.h hi.h hs p q ha⟩
def cV  : EO X none Aa:=⟨JS⟩
def cW(i:EE X e w):EO X (some e) (Om w):=⟨Gw i.h⟩
def cA{n i:WO1}{p:Pos}(hr:SlR X (sM X.kx ob))(q:EE X e w)(s:EO X lo n)(r:EO X hi i):EE X (.Subscript e (.Slice lo hi none p) pos) (wSl ob w n i):=⟨Bv hr q.h s.h r.h⟩
end
section
variable {X:Cx}{a:Expr}{es:List Expr}{w:WA}{pos p:Pos}{k n:Nat}{sp:SpM}{x:Str}
theorem mf'(F:FnM X.prog X.w X.K X.mg X.base x k n sp)(hr:Room k X.A)(ha:EA X (a::es) w)(d:Gl X x:=by rfl)(h:(x==("__debug__" : Str))=false:=by decide)(c:aac (a::es) X.env=(false,eval a X.env)::aac es X.env:=by first|exact ba rfl|rfl)(b:(acg pos (aac es X.env)).any (·.1)=false:=by rfl):EE X (.Call (.Name x p) (a::es) [] pos) (Au sp w):=⟨B9 F hr ha.h d h c b⟩
end
theorem aP{P:aaD}{w:World}{K:LD}{base:aaX}{k:Nat}(D:DefM K mg x st ps)(S:am N ps (ac st))(g:ps.length=n)(e:N.length=nN)(d:n≤nN)(ar:∀as a,sp as a->as.length=n)
  (h:∀(c:lD) (A:aa6) (outer:List Env) (s:mT) (H:Hp) (E:XK) (f:Addr),Room k (A.deeper (ae5 x (ac st) s.heap.objs.size f c)) ->
   ∃b,ESs (cxOf CX0 P w K mg base N x (ac st) f c A outer s H E).nox (dU st) b/\∀as a,as.length=n->sp as a->b {nx:=λm=>a (.imm .none) (m.os.take m.np),rt:=λr m=>retK a m r} (jl nN as)) :
  FnM P w K mg base x (k+1) n sp:=QH D S g e d ar λc A outer s H E f hr=>let ⟨b,h1,h2⟩:=h c A outer s H E f hr;⟨b,h1.h,h2⟩
theorem Jc{P:aaD}{w:World}{K:LD}{base:aaX}{k:Nat}(F:Fun K x x st f fd)(S:am N ps (ac st))(g:ps.length=n)(e:N.length=nN)(b:n≤nN)
  (h:∀(c:lD) (A:aa6) (outer:List Env) (s:mT) (H:Hp) (E:XK) (f:Addr),Room k (A.deeper (ae5 x (ac st) s.heap.objs.size f c)) ->
   ∃a,ESs (cxOf CX0 P w K mg base N x (ac st) f c A outer s H E).nox (dU st) a/\∀as d,as.length=n->sp as d->a {nx:=λm=>d (.imm .none) (m.os.take m.np),rt:=λr m=>retK d m r} (jl nN as)) :
  FnOk P w K mg base CX0 (k+1) f fd ps (spOf ⟨K,w⟩ n sp):=K9 F S g e b λc A outer s H E f hr=>let ⟨a,h1,h2⟩:=h c A outer s H E f hr;⟨a,h1.h,h2⟩
end L2
namespace HT
open PySem PySem.Spec PyProof.Rows
section
variable {prog:aaD}{w:World}{A:aa6}{E:lD->mT->Prop}{s:mT}
def cut_whole{t d:Addr}{items:Array lD}{vl v:lD}{lo hi:Option Int}{Q:lD->mT->Prop}(b:IsTup s.heap t items)(hs:s.heap.IsSliceOf d vl v .none)(p:agi vl lo)(j:agi v hi)
  (g:sIx items.size 0 lo=0/\sIx items.size items.size hi=items.size) (h:Q (.ref t) s):wpAny (model prog w) A (aeO (.ref t) (.ref d)) Q E s:=by
 let⟨os,e,c,i⟩:=id hs;have f:s.TypeIs (.ref d) "slice":=⟨os,e,c⟩;unfold aeO
 try with_reducible refine abI ?_
 refine aD (afI b.typeIs (by decide) (aD (aaF (name:=abY "__getitem__") b.typeIs abq (aaJ abq b.typeIs entry_tuple_getitem ?_ (args_tuple_getitem _ _)))));show wpAny _ _ (adA (.ref t) >>= _) _ _ s;refine aD (ahg b (aD (add f ?_)));rw[if_pos (by decide)];refine aD (fC hs p j ?_);have a:(((sIx items.size 0 lo:Nat):Int)==0&&(1:Int)==1&&(sIx items.size items.size hi-sIx items.size 0 lo)==items.size)=true:=by
  rw[g.1,g.2];simp
 show wpAny _ _ (if _=true then _ else _) _ _ s;rw[if_pos a];refine aD ?_;unfold aft;refine aD (add b.typeIs (Dl ?_));rw[if_pos (by rfl)];exact aD (abH (Dl ⟨_,rfl,Dl h⟩))
end
end HT
namespace L2
open PySem PySem.Spec PyProof.Rows
variable{hi lo:Option Int}{Kr:R->Prop}{ds es:List dL}{K:R->MSt->Prop}{X:Cx}{pins:List (Addr×Obj)}{σ:St}{H:Hp}{h h':aaX}{t t1 t2:Bool}{a b i1 i2 it l l1 l2 z:Addr}{i n:Nat}{items its xs ys:Array lD}{Q:lD->mT->Prop}{f:lD}{elts:List Expr}
section
variable {X:Cx}
noncomputable def oCut:R->Option Int->Option Int->MSt->(R->Prop)->Prop:=λr lo hi m K=>(∃ds,lsOf m r=some ds/\K (.new (cutD ds lo hi)))\/∃ds,r = .imm (.tuple ds)/\K (.imm (.tuple (cutD ds lo hi)))
theorem fy:SlR X (sM X.kx oCut):=by
 intro pins s c H x v vl A lo hi w Q I o hs q u E;obtain⟨C,m,σ,B,r,D,R,h,k|⟨ds,rfl,k⟩,fin⟩:=E
 .exact CY pins s c H x v vl A lo hi w Q I o hs q u ⟨C,m,σ,B,r,D,R,h,k,fin⟩
 .obtain⟨a,xs,rfl,f,g⟩:=bI (h)
  by_cases j:HT.sIx xs.length 0 lo=0/\HT.sIx xs.length xs.length hi=xs.length
  .cases o;let⟨its,F,y,G⟩:=I.tuple f;have d:its.toArray.size=xs.length:=by rw[aav];exact F.length.symm
   refine⟨"tuple",_,abq.lookup,y.typeIs,?_⟩;refine HT.cut_whole y hs q u (by rw[d];exact j) ⟨.ref a,H,I,rfl,fin _ _ H k R (lG (cR f ?_)) (Frm.refl _ _)⟩;have e:cutD ds lo hi=ds:=by
    unfold cutD;rw[g.length,j.1,j.2,afs,Nat.sub_zero,<-g.length,Ld]
   rw[e];exact g
  .exact Oz pins s c H _ v vl A lo hi w Q I o hs q u ⟨a,xs,rfl,f,j,λp hp=>fin _ _ _ k (R.lay hp) (lG (cR (SqT.of ay) ((yO g lo hi).mono (bu (.inl hp))))) (cz hp)⟩
def JH{m:MSt}{r:R}(e:lsOf m r=some ds)(h:Kr (.new (cutD ds lo hi))):oCut r lo hi m Kr:=.inl ⟨ds,e,h⟩
def Kw{m:MSt}(h:Kr (.imm (.tuple (cutD ds lo hi)))):oCut (.imm (.tuple ds)) lo hi m Kr:=.inr ⟨ds,rfl,h⟩
def kl(n:Nat):cutD ds none (some (n:Int))=ds.take n:=by
 unfold cutD;rw[HT.sIx_none,HT.sIx_nat];simp
theorem kw(n:Nat):cutD ds (some (n:Int)) none=ds.drop n:=by
 unfold cutD;rw[HT.sIx_none,HT.sIx_nat]
 by_cases h:n≤ds.length
 .rw[Nat.min_eq_left h];exact aek (by simp)
 .rw[Nat.min_eq_right (by omega),List.drop_length,List.drop_eq_nil_of_le (by omega),List.take_nil]
noncomputable def oIn(c:Bool):WO:=λr1 r m K=>∃d ds,asD m r1=some d/\(asD m r=some (.list ds)\/asD m r=some (.tuple ds))/\d.canLay0=true/\aa3 ds=true/\d.depth≤60/\K (.imm (.bool (if c then !ds.any (λy=>aah y d)else ds.any λy=>aah y d)))
theorem k7(G:X.A.units+64<cLine):OpR X (abR .NotIn) (rM X.kx (oIn true)):=by
 intro pins s j H x y v u Q I w r ⟨E,m,σ,C,D,r1,F,J,R,A,o,⟨d,ds,B,e,k,g,dp,ho⟩,fin⟩;let⟨as,q⟩:=A.reads I R w B (abe _ k);have c:EP X pins j Q _ s:=⟨.bl _,H,I,rfl,fin _ _ H ho R (qg _) (Frm.refl _ _)⟩;have p:X.A.units+1+min (aaq ds) d.depth<cLine:=by have:=aeE (aaq ds) d.depth;omega
 rcases e with e|e
 .obtain⟨bs,q2⟩:=o.reads I R r e (by simp[acO];exact acj _ g);exact SeqAt.notIn_list_reads q2 q g k p c
 .obtain⟨bs,q2⟩:=o.reads I R r e (by simp only[acO];exact acj _ g);exact SeqAt.notIn_tuple_reads q2 q g k p c
def x_in{m:MSt}{r1 r:R}{c:Bool}{d:dL}{k k':Nat}(j:asD m r1=some d)(e:asD m r=some (.list ds)\/asD m r=some (.tuple ds))(s1:Shp k d)(s2:∀y∈ds,Shp k' y)(g:k≤60)(h:Kr (.imm (.bool (if c then !ds.any (λy=>aah y d)else ds.any λy=>aah y d)))):oIn c r1 r m Kr:=
 ⟨d,ds,j,e,s1.cl,(lg s2).1,aak s1.dp g,h⟩
noncomputable def Qv(P:List dL->Prop):R->Prop
 | .new ds=>P ds
 |_=>False
noncomputable def yn:WM:=λr rs m K=>xw (λk=>on1 (Qv λes=>∃ds,m.os[k]?=some ds/\ds.length+es.length≤aad/\K (.imm .none) {m with os:=m.os.set k (ds++es)}) rs) r
theorem l6:MtM X "list.extend" (mM X.kx yn):=by
 intro pins s d H x xs v u Q I o D ⟨L,m,σ,E,J,r,rs,M,R,p,c,ho,fin⟩;let⟨k,a,rfl,e,rfl,ho⟩:=zy p ho;let⟨A,G,rfl,rfl,c,ho⟩:=dH c ho
 cases A with
 |imm _=>exact ho.elim
 |obj _=>exact ho.elim
 | «at» _ _=>exact ho.elim
 |newT _=>exact ho.elim
 |new es=>
  let⟨ds,y,C,ho⟩:=ho;let⟨b,B,rfl,w,hb,j⟩:=c;let⟨ys,q,g⟩:=R.own _ _ ds e y;let⟨R2,F⟩:=R.setO e q (g.append j);exact y6 pins s d H _ _ v u Q I o D ⟨a,b,ys,B,rfl,rfl,q,hb,by rw[<-g.length,<-j.length];exact C,fin _ _ _ _ ho rfl R2 yF F⟩
def BQ{m:MSt}{k:Nat}(e:m.os[k]?=some ds)(c:ds.length+es.length≤aad)(h:K (.imm .none) {m with os:=m.os.set k (ds++es)}):yn (.obj k) [.new es] m K:=⟨ds,e,c,h⟩
noncomputable def D9:WM:=λr rs m K=>on1 (i7 λd=>∃ds j,lsOf m r=some ds/\d.canLay0=true/\aa3 ds=true/\d.depth≤60/\(∃y,ds[j]?=some y/\aah y d=true)/\(∀(i:Nat) y,i<j->ds[i]?=some y->aah y d=false)/\K (.imm (.int (j:Nat))) m) rs
theorem yA(hu:X.A.units+64<cLine):MtM X "list.index" (mM X.kx D9):=by
 intro pins s σ' H x xs v us Q I U rv ⟨α,m,σ,H0,H1,r,rs,Kc,R,V,C,ho,fin⟩;let⟨r2,v2,rfl,rfl,C,ho⟩:=dH C ho;let⟨d,rfl,hd,ds,j,el,O,G,dp,⟨y,L,eq⟩,E,ho⟩:=fE C ho;let⟨a,zs,rfl,f,g⟩:=V.list R el;cases U;let⟨u,rfl,W⟩:=rv.one;let⟨bs,T⟩:=Den.reads I (abe _ O) hd W;let⟨its,w,Z,hz⟩:=I.list f;let⟨o,n,A,N,k⟩:=Z;let⟨as,B⟩:=DenAll.reads I (acj _ G) g w;have hm:X.A.units+1+min (aaq ds) d.depth<cLine:=by have:=aeE (aaq ds) d.depth;omega
 have p:=ahp ds _ _ G B;have M:its.length=ds.length:=by rw[<-p,gE]
 have S:j<its.length:=by rw[M];exact(DL.mp L).1
 have J:∀(i:Nat) (hi:i<its.length) y,ds[i]?=some y->adi s.heap its[i]=y:=λi hi y e=>by
  rw[<-p,GE,iO hi]at e;exact aal e
 let⟨Y,dd,P,sl⟩:=o;let⟨k,c⟩:=k;dsimp only at N c;subst N;subst c;have F:(j:Int)<2^63-1:=by
  have D:=hz;rw[aag]at D;have:=w.length;omega
 refine ad7 af2 ⟨_,A,rfl⟩ PySem.F.entry_list_index (PySem.F.args_list_index_2 _ _)
  (SeqAt.list_indexAt a its.toArray _ dd sl u (λy=>aah (adi s.heap y) d) j (by simpa using S) F ?_ ?_) ⟨A,ahP (by simpa using B) T G O hm,?_⟩
 .show aah (adi s.heap its[j]) d=true;rw[J j S y L];exact eq
 .intro i hi hlt;have q:i<its.length:=by simpa using hi
  show aah (adi s.heap its[i]) d=false;have hi2:i<ds.length:=by rw[<-M];exact q
  rw[J i q _ (iO hi2)];exact E i _ hlt (iO hi2)
 .exact⟨.int (j:Nat),H,I.tok _,⟨_,rfl⟩,fin _ _ _ H ho rfl R (dB _) (Frm.refl _ _)⟩
def Jo{m:MSt}{r:R}{d y:dL}{j k k':Nat}(e:lsOf m r=some ds)(s1:Shp k d)(s2:∀y∈ds,Shp k' y)(o:k≤60)(g:ds[j]?=some y)(eq:aah y d=true)(c:∀(i:Nat) y,i<j->ds[i]?=some y->aah y d=false)(h:K (.imm (.int (j:Nat))) m):D9 r [.imm d] m K:=
 ⟨ds,j,e,s1.cl,(lg s2).1,aak s1.dp o,⟨y,g,eq⟩,c,h⟩
end
theorem Inv.turneds{s:mT}{t':Nat}{ch:List Addr}(I:Inv X pins σ H s)(k:∀b o,b∉ch->s.heap.get? b=some o->h'.get? b=some o)(j:∀b∈ch,FpOk X pins H b):Inv X pins σ H {s with heap:=h',toks:=t' }:=by
 have g:∀b u,H b=some u->b∉ch:=λb u e z=>by have:=(j b z).1;grind
 have p:=λz=>(j _ z).2.1 rfl;refine I.step (g':=s.gens) (d':=s.drawn) (λb hb=>?_) (λb o _ _ d e _=>k b o d e) (λb o _ _ d e _=>⟨o.slots,k b o d e⟩) (λ_ _ _ _ n=>n)
  (λb o d e=>⟨o,k b o d e⟩) (λ_ _ e=>e) (λ_ _ _ e=>e) (λb x e=>⟨#[],by rw[e];simp⟩) (λm w=>?_) (λb u e=>?_) I.bare
 .obtain⟨_,f1,_,f3,f4,f5⟩:=j b hb;exact⟨f3,f1,f4,f5⟩
 .obtain⟨o,es,ep,ho,r⟩:=w;exact⟨o,es,ep,k _ o p ho,r⟩
 .refine(I.hok b u e).stay (λc v d q=>k c v ?_ q) (λ_ q=>q) λ_ _ q=>q;rcases d with z|z
  .rw[z];exact g b u e
  .exact g c _ z
noncomputable def SubI(t:Bool)(h:aaX)(i l:Addr)(k:Nat):Prop:=if t then h.IsTupleIter i l k else h.IsListIter i l k
noncomputable def SubS(t:Bool)(h:aaX)(l:Addr)(its:Array lD):Prop:=if t then h.IsTuple l its else h.IsList l its
def SubI.ext{i:Addr}{k:Nat}(x:SubI t h i l k)(e:afJ b h h')(n:i≠b):SubI t h' i l k:=by
 cases t
 .exact aaX.IsListIter.extBut (x) e n
 .exact aaX.IsTupleIter.extBut (x) e n
def SubI.obj{i:Addr}{k:Nat}(x:SubI t h i l k):∃o vs,h.get? i=some o/\o.data = .fields vs:=by
 cases t
 .obtain⟨o,e,_,d⟩:=(x);exact⟨o,_,e,d⟩
 .obtain⟨o,e,_,d⟩:=(x);exact⟨o,_,e,d⟩
def SubI.keep{i:Addr}{k:Nat}(x:SubI t h i l k)(e:∀o,h.get? i=some o->h'.get? i=some o):SubI t h' i l k:=by
 cases t
 .obtain⟨o,q,r⟩:=(x);exact⟨o,e o q,r⟩
 .obtain⟨o,q,r⟩:=(x);exact⟨o,e o q,r⟩
def SubS.keep(x:SubS t h l its)(e:∀o,h.get? l=some o->h'.get? l=some o):SubS t h' l its:=by
 cases t
 .obtain⟨o,q,r⟩:=(x);exact⟨o,e o q,r⟩
 .obtain⟨o,q,r⟩:=(x);exact⟨o,e o q,r⟩
def SubS.ext(x:SubS t h l its)(e:afJ b h h')(n:l≠b):SubS t h' l its:=x.keep λo q=>e l o n q
section
variable {prog:aaD}{w:World}{A:aa6}{E:lD->mT->Prop}{s:mT}
theorem jE{c:Type}{Q:c->mT->Prop}(d:A.handled=none)(h:∀h' e,(∀b o,s.heap.get? b=some o->h'.get? b=some o)->(∃o,h'.get? e=some o/\o.cls = .type "StopIteration")->E (.ref e) {s with heap:=h' }) :
  wpAny (model prog w) A (do raiseNew (<- newExc (.type "StopIteration") []):Sem c) Q E s:=by
 refine aD ?_;refine aD ?_;refine aaV ?_ (by size_fits);refine aD (wpAny_of_eq (a:=ahl) (by rfl) (aaV ?_ (by size_fits)));refine aD (m:=handled) (wpAny_handled ?_);rw[d];refine aD (Dl (wpAny_throw (h _ _ (λb o q=>AD _ (AD _ q)) ⟨_,aaa _ rfl,rfl⟩)))
def Rg(c:s.heap.IsTupleIter it l i)(h:Q (.ref l) s):wpAny (model prog w) A (field (.ref it) 0) Q E s:=let ⟨_,ho,_,hd⟩:=c;aba ho hd (x:=.ref l) rfl h
def Q9(c:s.heap.IsTupleIter it l i)(h:Q (.int i 0) s):wpAny (model prog w) A (field (.ref it) 1) Q E s:=let ⟨_,ho,_,hd⟩:=c;aba ho hd (x:=.int i 0) rfl h
def R9{Q:Option (Array lD)->mT->Prop}(c:s.heap.IsTuple l items)(h:Q (some items) s):wpAny (model prog w) A (seqItems? (.ref l)) Q E s:=let ⟨_,ho,_,_,hd⟩:=c;acP ho hd h
theorem uk{Q:Option lD->mT->Prop}(c:s.heap.IsTupleIter it l i)(j:s.heap.IsTuple l items)
  (hs:∀x,items[i]?=some x->∀h',h'.IsTupleIter it l (i+1)->abk it s.heap h'->Q (some x) {s with heap:=h' })
  (d:items[i]?=none->A.handled=none/\∀h' e,afJ it s.heap h'->(∃o,h'.get? e=some o/\o.cls = .type "StopIteration")->E (.ref e) {s with heap:=h' }) :
  wpAny (model prog w) A (callSpecial? (.ref it) "__next__" []) Q E s:=by
 refine aaF (name:=abY "__next__") c.typeIs afu (aaJ afu c.typeIs F.entry_tuple_iterator_next ?_ (F.args_tuple_iterator_next_1 _))
 wp_walk using Rg c,Q9 c,R9 j
 rcases id c with⟨o,ho,r,hd⟩;rw[aaM]
 cases q:items[i]? with
 | some x=>
  have new:(s.heap.update it (Obj.mapFields (·.setIfInBounds 1 (adj ((i:Int)+1))))).IsTupleIter it l (i+1):=by
   refine⟨_,acS _ ho (Obj.isFreed_of_fields (ahq hd _)),?_,?_⟩
   .exact(Obj.cls_mapFields ..).trans r
   .rw[ahq hd];simp[adj]
  exact aD (m:=acQ (.ref it) 1 _) (wpAny_setField ho hd (by simp) (Dl ⟨x,rfl,hs x q _ new (ag4 ..)⟩))
 |none=>
  let⟨p,d⟩:=d q;refine aD (m:=rule _) (abH (aD (m:=acQ (.ref it) 0 _) (wpAny_setField ho hd (by simp) ?_)));exact jE (A:=A.in1) p λh' e k x=>d h' e (λb g u z=>k b g ((ag4 ..).extBut b g u z)) x
theorem jK{x:lD}(c:SubI t s.heap it l i)(j:SubS t s.heap l items)(d:items[i]?=some x)
  (g:∀h',SubI t h' it l (i+1)->abk it s.heap h'->Q x {s with heap:=h' }):wpAny (model prog w) A (abN (.ref it)) Q E s:=by
 cases t with
 |false=>exact wpAny_nextOf_list_item (c) (j) d g
 |true=>exact aD (uk (c) (j) (λy e h' a b=>by rw[d]at e;cases e;exact Dl (g h' a b)) λno=>by rw[d]at no;cases no)
theorem sD(k:A.handled=none)(c:SubI t s.heap it l i)(j:SubS t s.heap l items)(m:items[i]?=none)
  (d:∀h' e,afJ it s.heap h'->(∃o,h'.get? e=some o/\o.cls = .type "StopIteration")->E (.ref e) {s with heap:=h' }):wpAny (model prog w) A (abN (.ref it)) Q E s:=by
 cases t with
 |false=>exact wpAny_nextOf_list_end k (c) (j) m d
 |true=>exact aD (uk (c) (j) (λy g=>by rw[m]at g;cases g) λ_=>⟨k,d⟩)
structure Apart(z TI TO i1 i2 l1 l2:Addr):Prop where
 d:[z,TI,TO,i1,i2].Nodup
 m1:l1∉[z,TI,TO,i1,i2]
 m2:l2∉[z,TI,TO,i1,i2]
def Apart.old{TI TO:Addr}(D:Apart z TI TO i1 i2 l1 l2):ZipApart z TI TO i1 i2 l1 l2:=by
 let⟨d,m1,m2⟩:=D;simp at d m1 m2;let⟨⟨a1,a2,m,g⟩,⟨b1,b2,e⟩,⟨k,c⟩,j⟩:=d;exact⟨abf a1,abf a2,abf m,abf g,b1,b2,e,k,c,j,m1.1,m1.2.2.1,m1.2.2.2.1,m1.2.2.2.2,m2.1,m2.2.2.1,m2.2.2.2.1,m2.2.2.2.2⟩
structure BX(t1 t2:Bool)(z TI TO i1 i2 l1 l2:Addr)(k:Nat)(h:aaX):Prop where
 z:IsZip h z TI TO .none
 ti:ae9 h TI (.ref i1) (.ref i2)
 to:∃a b,ae9 h TO a b
 s1:SubI t1 h i1 l1 k
 s2:SubI t2 h i2 l2 k
def zf0{TI TO:Addr}(c:IsZip s.heap z TI TO f)(h:Q f s):wpAny (model prog w) A (field (.ref z) 0) Q E s:=aba c rfl (x:=f) rfl h
def zf2{TI TO:Addr}(c:IsZip s.heap z TI TO f)(h:Q (.bool false) s):wpAny (model prog w) A (field (.ref z) 2) Q E s:=aba c rfl (x:=.bool false) rfl h
def zf3{TI TO:Addr}(c:IsZip s.heap z TI TO f)(h:Q (.ref TI) s):wpAny (model prog w) A (field (.ref z) 3) Q E s:=aba c rfl (x:=.ref TI) rfl h
theorem Du{TI TO:Addr}{k:Nat}{x y:lD}{Q:Option lD->mT->Prop}(D0:Apart z TI TO i1 i2 l1 l2)(Z:BX t1 t2 z TI TO i1 i2 l1 l2 k s.heap)
  (W:SubS t1 s.heap l1 xs) (U:SubS t2 s.heap l2 ys) (hx:xs[k]?=some x) (hy:ys[k]?=some y)
  (hQ:∀h',IsZip h' z TI TO (adj s.heap.objs.size)->ae9 h' TO x y->SubI t1 h' i1 l1 (k+1)->SubI t2 h' i2 l2 (k+1)->ae9 h' s.heap.objs.size x y->h'.objs.size=s.heap.objs.size+1 ->
   (∀c o,c∉[z,TO,i1,i2]->s.heap.get? c=some o->h'.get? c=some o)->Q (some (.ref s.heap.objs.size)) {s with heap:=h' }):wpAny (model prog w) A (ach (.ref z)) Q E s:=by
 have D:=D0.old;let⟨J,T,⟨a,b,hTO⟩,h1,h2⟩:=Z;have hT:s.TypeIs (.ref z) "zip":=(⟨_,J,rfl⟩);unfold ach;refine aD (ab3 (aaF (name:=abY "__next__") hT afa (aaJ afa hT F.entry_zip_next ?_ (F.args_zip_next_1 _))));refine aD (m:=field (.ref z) 2) (zf2 J (aD (m:=field (.ref z) 3) (zf3 J (aD (acP T rfl ?_)))));refine aD (m:=abV (.ref z)) (aD (m:=field (.ref z) 0) (zf0 J (Dl ?_)));simp only[if_true];refine aD (abH (aD (aba J rfl (x:=.ref TO) rfl (aD (aat J (by simp) λg1 B s1=>?_)))));replace B:IsZip g1 z TI TO .ellipsis:=B;refine aD ?_;simp only[ae7,List.forIn_nil,ahQ,List.zipIdx_nil];refine aD (aD (afQ (aD (m:=abN (.ref i1)) ?_)));refine(jK (h1.ext s1.extBut D.i1z) (W.ext s1.extBut D.l1z) hx λg2 n1 s2=>Dl ?_);have v:ae9 g2 TO a b:=s2.extBut _ _ D.TOi1 (s1.extBut _ _ D.TOz hTO);refine aD (acP v rfl (aD (aeV v λg3 j I=>?_)));replace j:ae9 g3 TO x b:=j;refine aD (afK (Dl (aD (aD (afQ ?_)))));refine aD (m:=abN (.ref i2)) (jK (((h2.ext s1.extBut D.i2z).ext s2.extBut D.i12.symm).ext I.extBut D.TOi2.symm) (((U.ext s1.extBut D.l2z).ext s2.extBut D.l2i1).ext I.extBut D.l2TO) hy λg4 n2 O=>Dl ?_);have u:ae9 g4 TO x b:=O.extBut _ _ D.TOi2 j;refine aD (acP u rfl (aD (aeV u λg d R=>?_)));replace d:ae9 g TO x y:=d;refine aD (afK (Dl (Dl (aD (acP d rfl (aD (afv ?_)))))));have N:g.objs.size=s.heap.objs.size:=by rw[R.1,O.1,I.1,s2.1,s1.1]
 have L:IsZip g z TI TO .ellipsis:=R.extBut _ _ D.TOz.symm (O.extBut _ _ D.i2z.symm (I.extBut _ _ D.TOz.symm (s2.extBut _ _ D.i1z.symm B)));have k5:∀c o,c∉[z,TO,i1,i2]->s.heap.get? c=some o->g.get? c=some o:=λc o p e=>by
  simp only[aam,abL,not_or,or_false]at p;exact R.extBut _ _ p.2.1 (O.extBut _ _ p.2.2.2 (I.extBut _ _ p.2.1 (s2.extBut _ _ p.2.2.1 (s1.extBut _ _ p.1 e))))
 have n15:SubI t1 g i1 l1 (k+1):=((n1.ext I.extBut D.TOi1.symm).ext O.extBut D.i12).ext R.extBut D.TOi1.symm;have n25:SubI t2 g i2 l2 (k+1):=n2.ext R.extBut D.TOi2.symm;have P:z<g.objs.size:=OR L;refine aD (m:=acH (.ref z) (.ref g.objs.size)) ?_;have V:IsZip (g.push {cls:=.type "tuple",data:=.seq #[x,y]}) z TI TO .ellipsis:=AD _ L;refine aD (m:=acQ (.ref z) 0 _) (aat V (by simp) λg7 C Y=>?_);replace C:IsZip g7 z TI TO (adj g.objs.size):=C;refine aat C (by simp) λG r s8=>?_;replace r:IsZip G z TI TO (adj g.objs.size):=r;have S:∀c o,c≠z->g.get? c=some o->G.get? c=some o:=λc o c1 e=>s8.extBut _ _ c1 (Y.extBut _ _ c1 (AD _ e));have M:ae9 G g.objs.size x y:=s8.extBut _ _ (aaY P) (Y.extBut _ _ (aaY P) (aaa _ rfl));have z8:G.objs.size=g.objs.size+1:=by rw[s8.1,Y.1,abx]
 rw[N]at r M z8;have fin:wpAny (model prog w) A (pure (some (adq g.objs.size))) Q E {s with heap:=G}:=by
  rw[N];exact Dl (hQ G r (S _ _ D.TOz d) (n15.keep λo e=>S _ o D.i1z e) (n25.keep λo e=>S _ o D.i2z e) M z8 λc o p e=>S c o (λq=>p (by simp[q])) (k5 c o p e))
 exact Dl ⟨_,rfl,fin⟩
theorem Iy{TI TO:Addr}{k:Nat}{Q:Option lD->mT->Prop}(W:A.handled=none)(D0:Apart z TI TO i1 i2 l1 l2)(Z:BX t1 t2 z TI TO i1 i2 l1 l2 k s.heap)
  (C:SubS t1 s.heap l1 xs) (N:SubS t2 s.heap l2 ys) (I:xs[k]?=none\/ys[k]?=none)
  (hQ:∀h',(∀c o,c∉[z,TO,i1,i2]->s.heap.get? c=some o->h'.get? c=some o)->Q none {s with heap:=h' }):wpAny (model prog w) A (ach (.ref z)) Q E s:=by
 have D:=D0.old;let⟨y,L,⟨a,b,P⟩,V,h2⟩:=Z;have U:s.TypeIs (.ref z) "zip":=(⟨_,y,rfl⟩);have out:∀{c:Addr},c∉[z,TO,i1,i2]->c≠z/\c≠TO/\c≠i1/\c≠i2:=λu=>by simpa only[aam,abL,not_or,or_false]using u
 have fin:∀h' e,(∀c o,c∉[z,TO,i1,i2]->s.heap.get? c=some o->h'.get? c=some o)->(∃o,h'.get? e=some o/\o.cls = .type "StopIteration") ->
   wpAny (model prog w) A (do if <- isInstance (.ref e) (.type "StopIteration")then pure none else throw (.ref e):Sem (Option lD)) Q E {s with heap:=h' }:=λh' e hk ⟨o,ho,u⟩=>
  aD (ack (T:= "StopIteration") (b:=true) ⟨o,ho,u⟩ ael (Dl (hQ _ hk)))
 unfold ach;refine aD (ab3 (aaF (name:=abY "__next__") U afa (aaJ afa U F.entry_zip_next ?_ (F.args_zip_next_1 _))));refine aD (m:=field (.ref z) 2) (zf2 y (aD (m:=field (.ref z) 3) (zf3 y (aD (acP L rfl ?_)))));refine aD (m:=abV (.ref z)) (aD (m:=field (.ref z) 0) (zf0 y (Dl ?_)));simp only[if_true];refine aD (abH (aD (aba y rfl (x:=.ref TO) rfl (aD (aat y (by simp) λg1 j s1=>?_)))));replace j:IsZip g1 z TI TO .ellipsis:=j;refine aD ?_;simp only[ae7,List.forIn_nil,ahQ,List.zipIdx_nil];refine aD (aD (afQ (aD (m:=abN (.ref i1)) ?_)))
 cases hx:xs[k]? with
 |none=>
  refine(sD W (V.ext s1.extBut D.i1z) (C.ext s1.extBut D.l1z) hx λO e s2 R=>?_);let⟨S,d,g⟩:=R;have G:IsZip O z TI TO .ellipsis:=s2 _ _ D.i1z.symm j;have v:e≠z:=λq=>by subst q;rw[G]at d;cases d;simp at g
  refine aat G (by simp) λY _ r=>fin Y e (λc o u q=>?_) ⟨S,r.extBut _ _ v d,g⟩;let⟨J,_,M,_⟩:=out u;exact r.extBut _ _ J (s2 _ _ M (s1.extBut _ _ J q))
 |some x=>
  have hy:ys[k]?=none:=by rcases I with q|q;rw[hx]at q;cases q;exact q
  refine(jK (V.ext s1.extBut D.i1z) (C.ext s1.extBut D.l1z) hx λO n1 s2=>Dl ?_);have p:ae9 O TO a b:=s2.extBut _ _ D.TOi1 (s1.extBut _ _ D.TOz P);refine aD (acP p rfl (aD (aeV p λY hTO3 r=>?_)));refine aD (afK (Dl (aD (aD (afQ ?_)))));refine aD (m:=abN (.ref i2)) (sD W (((h2.ext s1.extBut D.i2z).ext s2.extBut D.i12.symm).ext r.extBut D.TOi2.symm) (((N.ext s1.extBut D.l2z).ext s2.extBut D.l2i1).ext r.extBut D.l2TO) hy λg4 e s4 R=>?_);let⟨S,d,g⟩:=R;have B:IsZip g4 z TI TO .ellipsis:=s4 _ _ D.i2z.symm (r.extBut _ _ D.TOz.symm (s2.extBut _ _ D.i1z.symm j));have v:e≠z:=λq=>by subst q;rw[B]at d;cases d;simp at g
  refine aat B (by simp) λg5 _ s5=>fin g5 e (λc o u q=>?_) ⟨S,s5.extBut _ _ v d,g⟩;let⟨J,c2,M,c4⟩:=out u;exact s5.extBut _ _ J (s4 _ _ c4 (r.extBut _ _ c2 (s2.extBut _ _ M (s1.extBut _ _ J q))))
end
noncomputable def zit(t:Bool):String:=if t then "tuple_iterator" else "list_iterator"
noncomputable abbrev itO(t:Bool)(l:Addr):Obj:={cls:=.type (zit t),data:=.fields #[.ref l,.int 0 0]}
noncomputable abbrev zA(t1:Bool)(h:aaX)(l1:Addr):aaX:=h.push (itO t1 l1)
noncomputable abbrev zB(t1 t2:Bool)(h:aaX)(l1 l2:Addr):aaX:=(zA t1 h l1).push (itO t2 l2)
noncomputable abbrev zC(t1 t2:Bool)(h:aaX)(l1 l2:Addr):aaX:=(zB t1 t2 h l1 l2).push {cls:=.type "tuple",data:=.seq #[.ref h.objs.size,.ref (zA t1 h l1).objs.size]}
noncomputable abbrev zD(t1 t2:Bool)(h:aaX)(l1 l2:Addr):aaX:=(zC t1 t2 h l1 l2).push {cls:=.type "tuple",data:=.seq #[.none,.none]}
noncomputable abbrev zE(t1 t2:Bool)(h:aaX)(l1 l2:Addr):aaX:=(zD t1 t2 h l1 l2).push {cls:=.type "zip",data:=.fields #[.none,.bool false,.bool false,.ref (zB t1 t2 h l1 l2).objs.size,.ref (zC t1 t2 h l1 l2).objs.size]}
def da{prog:aaD}{w:World}{A:aa6}{E:lD->mT->Prop}{s:mT}(h:SubS t s.heap l its)
  (c:Q (.ref s.heap.objs.size) {s with heap:=s.heap.push (itO t l)}):wpAny (model prog w) A (ae4 (.ref l)) Q E s:=by
 cases t
 .exact wpAny_pyIter_list (h) c
 .exact wpAny_pyIter_tuple (h) c
theorem GW(t1 t2:Bool)(l1 l2:Addr)(xs ys:Array lD) :
  Meets (ac8.«zip.__new__» ⟨[.type "zip",.ref l1,.ref l2],[]⟩) (λ_ R s=>SubS t1 s.heap l1 xs/\SubS t2 s.heap l2 ys/\R (.ok (.ret (.ref (zD t1 t2 s.heap l1 l2).objs.size))) {s with heap:=zE t1 t2 s.heap l1 l2}):=
 .of_wp λprog w A R s h=>by
  rcases s with⟨hp,g,d,q,os⟩;rcases h with⟨j,m,h⟩;have p:=sub_zip;have c:=j;have k:SubS t2 (Shared.heap ⟨hp.push (itO t1 l1),g,d,q,os⟩) l2 ys:=m.keep λo e=>AD _ e
  wp_walk using da c,da k
  exact⟨_,rfl,h⟩
section
variable {prog:aaD}{w:World}{A:aa6}{E:lD->mT->Prop}{s:mT}
theorem BM(r:SubS t1 s.heap l1 xs)(m:SubS t2 s.heap l2 ys)
  (h:∀h',BX t1 t2 (s.heap.objs.size+4) (s.heap.objs.size+2) (s.heap.objs.size+3) s.heap.objs.size (s.heap.objs.size+1) l1 l2 0 h'->(∀c o,s.heap.get? c=some o->h'.get? c=some o)->Q (.ref (s.heap.objs.size+4)) {s with heap:=h' }):wpAny (model prog w) A (call (.type "zip") [.ref l1,.ref l2]) Q E s:=by
 refine callType_new F.called_zip (by decide) (F.typeCall_zip_2 _ _) (F.newCall_zip_2 _ _) (λobj=>F.args_object_init_3 obj _ _) F.entry_zip_new (GW t1 t2 l1 l2 xs ys) ⟨r,m,?_⟩;have p:(zA t1 s.heap l1).objs.size=s.heap.objs.size+1:=abx ..;have q:(zB t1 t2 s.heap l1 l2).objs.size=s.heap.objs.size+2:=by rw[abx,p]
 have v:(zC t1 t2 s.heap l1 l2).objs.size=s.heap.objs.size+3:=by rw[abx,q]
 have y:(zD t1 t2 s.heap l1 l2).objs.size=s.heap.objs.size+4:=by rw[abx,v]
 have j:∀c o,(zD t1 t2 s.heap l1 l2).get? c=some o->(zE t1 t2 s.heap l1 l2).get? c=some o:=λc o e=>AD _ e;have g:∀c o,(zC t1 t2 s.heap l1 l2).get? c=some o->(zE t1 t2 s.heap l1 l2).get? c=some o:=λc o e=>j c o (AD _ e);have u:∀c o,(zB t1 t2 s.heap l1 l2).get? c=some o->(zE t1 t2 s.heap l1 l2).get? c=some o:=λc o e=>g c o (AD _ e);have d:∀c o,(zA t1 s.heap l1).get? c=some o->(zE t1 t2 s.heap l1 l2).get? c=some o:=λc o e=>u c o (AD _ e);have B:(zE t1 t2 s.heap l1 l2).get? (s.heap.objs.size+4)=some {cls:=.type "zip",data:=.fields #[.none,.bool false,.bool false,.ref (s.heap.objs.size+2),.ref (s.heap.objs.size+3)]}:=by
  rw[<-y,<-v,<-q];exact aaa _ rfl
 have D:(zE t1 t2 s.heap l1 l2).get? (s.heap.objs.size+3)=some {cls:=.type "tuple",data:=.seq #[.none,.none]}:=by
  rw[<-v];exact j _ _ (aaa _ rfl)
 have G:(zE t1 t2 s.heap l1 l2).get? (s.heap.objs.size+2)=some {cls:=.type "tuple",data:=.seq #[.ref s.heap.objs.size,.ref (s.heap.objs.size+1)]}:=by
  rw[<-q,<-p];exact g _ _ (aaa _ rfl)
 have I:(zE t1 t2 s.heap l1 l2).get? (s.heap.objs.size+1)=some (itO t2 l2):=by
  rw[<-p];exact u _ _ (aaa _ rfl)
 have C:(zE t1 t2 s.heap l1 l2).get? s.heap.objs.size=some (itO t1 l1):=d _ _ (aaa _ rfl);have k:∀{t:Bool}{i l:Addr},(zE t1 t2 s.heap l1 l2).get? i=some (itO t l)->SubI t (zE t1 t2 s.heap l1 l2) i l 0:=λ{t i l} e=>by
  cases t
  .exact⟨_,e,rfl,rfl⟩
  .exact⟨_,e,rfl,rfl⟩
 show _/\_;rw[y];exact⟨⟨_,B,rfl⟩,h _ ⟨B,G,⟨_,_,D⟩,k C,k I⟩ λc o x=>d c o (AD _ x)⟩
end
theorem xL{l1 l2:Nat}(c:l1<n)(e:l2<n):Apart (n+4) (n+2) (n+3) n (n+1) l1 l2 where
 d:=by
  simp
 m1:=by
  grind
 m2:=by
  grind
noncomputable def SqB(t:Bool)(K:LD)(H:Hp)(a:Addr)(xs:List V):Prop:=if t then SqT K H a xs else SqL K H a xs
noncomputable def Itz(t1 t2:Bool)(K:LD)(a b:Addr):It where
 go:=λi H=>∃xs ys x y,SqB t1 K H a xs/\SqB t2 K H b ys/\xs[i]?=some x/\ys[i]?=some y
 yld:=λi H v c=>∃T x y,v = .ref T/\H T=none/\c=upd H T (.tup [x,y])/\(∀xs,SqB t1 K H a xs->xs[i]?=some x)/\∀ys,SqB t2 K H b ys->ys[i]?=some y
 stop:=λi H=>∃xs ys,SqB t1 K H a xs/\SqB t2 K H b ys/\(xs.length≤i\/ys.length≤i)
theorem Inv.sqb{s:mT}{xs:List V}(I:Inv X pins σ H s)(h:SqB t X.kx H a xs):∃its:List lD,Vals xs its/\SubS t s.heap a its.toArray/\xs.length≤aad:=by
 cases t
 .obtain⟨its,r,p,z⟩:=I.list (h);exact⟨its,r,p.isList,z⟩
 .obtain⟨its,r,p,z⟩:=I.tuple (h);exact⟨its,r,p,z⟩
def Inv.sqb_inj{s:mT}{xs ys:List V}(I:Inv X pins σ H s)(h:SqB t X.kx H a xs)(h':SqB t X.kx H a ys):xs=ys:=by
 cases t
 .exact I.list_inj (h) (h')
 .exact I.tuple_inj (h) (h')
theorem Bj{P:aaD}{w:World}{K:LD}{x1:Nat}{pos:Pos}{TI TO:Addr}(D:Apart z TI TO i1 i2 a b):Turn P w K (.Tuple elts x1 pos) (Itz t1 t2 K a b) [z,TI,TO,i1,i2] z (λi h=>BX t1 t2 z TI TO i1 i2 a b i h) where
 mem:=by simp
 obj:=λi h st c g=>by
  let⟨B,m,⟨u,v,j⟩,M,p⟩:=st;simp only[aam,abL,or_false]at g;rcases g with rfl|rfl|rfl|rfl|rfl
  .exact⟨_,B,λv q=>by cases q⟩
  .exact⟨_,m,λv q=>by cases q⟩
  .exact⟨_,j,λv q=>by cases q⟩
  .obtain⟨o,vs,e,d⟩:=M.obj;exact⟨o,e,λv q=>by rw[d]at q;cases q⟩
  .obtain⟨o,vs,e,d⟩:=p.obj;exact⟨o,e,λv q=>by rw[d]at q;cases q⟩
 keep:=λi h h' st k=>by
  let⟨B,m,⟨u,v,j⟩,M,p⟩:=st;exact⟨k z (by simp) _ B,k TI (by simp) _ m,⟨u,v,k TO (by simp) _ j⟩,M.keep λo e=>k i1 (by simp) o e,p.keep λo e=>k i2 (by simp) o e⟩
 item:=by
  intro X U hw W g i pins s σ H E I S st hg;subst U hw W;let⟨xs,ys,x,y,r,A,hx,hy⟩:=hg;let⟨O,G,Z,_⟩:=I.sqb r;let⟨R,F,T,_⟩:=I.sqb A;let⟨N,e1,V⟩:=G.get hx;let⟨L,e2,Y⟩:=F.get hy;refine Du D st Z T (x:=N) (y:=L) (by simpa using e1) (by simpa using e2) λh' a1 a2 a3 a4 a5 a6 a7=>⟨.ref s.heap.objs.size,rfl,?_⟩;refine wpAny_letOwnedTupleGo_zip (s:={s with heap:=h' }) a1 λp b1 sb=>?_;have hfT:H s.heap.objs.size=none:=I.hok.fresh (Ad _);have sfp:∀c∈[z,TI,TO,i1,i2],c<s.heap.objs.size:=λc g=>by
   let⟨B,m,⟨u,v,j⟩,M,p⟩:=st;simp only[aam,abL,or_false]at g;rcases g with rfl|rfl|rfl|rfl|rfl
   .exact OR B
   .exact OR m
   .exact OR j
   .obtain⟨o,vs,e,d⟩:=M.obj;exact OR e
   .obtain⟨o,vs,e,d⟩:=p.obj;exact OR e
  have nz:∀c∈[z,TI,TO,i1,i2],c≠s.heap.objs.size:=λc g=>aaS (sfp c g);have C:=D.old;have J:∀c o,c≠z->h'.get? c=some o->p.get? c=some o:=λc o n e=>sb.extBut c o n e;have T2:ae9 p s.heap.objs.size N L:=J _ _ (abf (nz z (by simp))) a5;have I0:Inv X pins σ (upd H s.heap.objs.size (.tup [x,y])) {s with heap:=s.heap.push {cls:=.type "tuple",data:=.seq #[N,L]},toks:=s.toks}:=
   I.laid (o:=.tup [x,y]) (λc o e=>AD _ e) (Ad _) ⟨by show 2≤aad;rw[aag];decide,[N,L],.cons V (.cons Y .nil),PlainT.new _ _⟩
  have Il:Inv X pins σ (upd H s.heap.objs.size (.tup [x,y])) {s with heap:=p,toks:=s.toks}:=by
   refine Inv.turneds (s:={s with heap:=s.heap.push {cls:=.type "tuple",data:=.seq #[N,L]},toks:=s.toks}) (h':=p) (t':=s.toks) (ch:=[z,TI,TO,i1,i2]) I0 (λc o g e=>?_) λc g=>?_
   .rcases aeW e with⟨rfl,rfl⟩|e
    .exact T2
    .exact J c o (λq=>g (by simp[q])) (a7 c o (λq=>g (by simp only[aam,abL,or_false]at q⊢;rcases q with q|q|q|q<;>simp[q])) e)
   .obtain⟨f0,f1⟩:=S c g;exact⟨by rw[au (nz c g)];exact f0,f1⟩
  refine⟨.ref s.heap.objs.size,upd H s.heap.objs.size (.tup [x,y]),Il,rfl,⟨_,x,y,rfl,hfT,rfl,λzs B=>by rw[I.sqb_inj B r];exact hx,λzs B=>by rw[I.sqb_inj B A];exact hy⟩,⟨b1,J _ _ C.TIz (a7 _ _ (by simp only[aam,abL,or_false,not_or];exact⟨C.TIz,C.TITO,C.TIi1,C.TIi2⟩) st.ti),⟨_,_,J _ _ C.TOz a2⟩,a3.keep λo e=>J _ o C.i1z e,a4.keep λo e=>J _ o C.i2z e⟩,λc g=>?_⟩;rw[au (nz c g)];exact(S c g).1
 done:=by
  intro X U hw W g i pins s σ H E I S st hg;subst U hw W;let⟨xs,ys,r,A,he⟩:=hg;let⟨O,G,Z,_⟩:=I.sqb r;let⟨R,F,T,_⟩:=I.sqb A;have l1:=G.length;have l2:=F.length;refine Iy (I.ok.hd g) D st Z T (by rcases he with q|q;(left;simp;omega);(right;simp;omega)) λh' hk=>⟨rfl,I.turneds (t':=s.toks) (ch:=[z,TI,TO,i1,i2]) (λc o g e=>hk c o (λq=>g (by simp only[aam,abL,or_false]at q⊢;rcases q with q|q|q|q<;>simp[q])) e) S⟩
 self:=λ_ _ _ _ _ st h=>wpAny_pyIter_zip st.z h
section
variable {X:Cx}{j:List Expr}{B:Nat}{w:Pos}{a b:Expr}{A:WA}{p pos:Pos}
noncomputable def iZip(K:LD)(ta:TA):TI:=λσ H R=>ta σ H λvs c=>∃t1 t2 l1 l2,vs=[.ref l1,.ref l2]/\(∃xs,SqB t1 K c l1 xs)/\(∃ys,SqB t2 K c l2 ys)/\R (Itz t1 t2 K l1 l2) c
def IE:abb "zip" = some (.type "zip"):=by rfl
theorem LS{ta:TA}(M:Gl X "zip")(P:X.mg "zip" = none)(ha:PA X [a,b] ta)(hs:aac [a,b] X.env=[(false,eval a X.env),(false,eval b X.env)]:=by first|exact(ba rfl).trans (congrArg _ (cy rfl))|rfl)(k:aac [b] X.env=[(false,eval b X.env)]:=by first|exact cy rfl|rfl):PI X (.Tuple j B w) (.Call (.Name "zip" p) [a,b] [] pos) (iZip X.K ta):=by
 intro pins s σ H S I h;refine Call_ (l8 I M P IE (acI (thn (ha pos pins s σ H _ I h) λR s1 ⟨vs,N,m,r1,E⟩=>?_) (by rw[hs,k]) (by rw[k];rfl)));let⟨t1,t2,l1,l2,e,⟨xs,D⟩,⟨ys,C⟩,q⟩:=E;subst e
 cases r1 with
 | cons r rr=>
  cases rr with
  | cons F rr=>
   cases rr;cases r;cases F;let⟨v,O,x,_⟩:=m.sqb D;let⟨y,G,u,_⟩:=m.sqb C;refine BM x u λh' Z L=>?_;refine wpAny_pyIter_zip Z.z ?_;have lt:∀{t:Bool}{l:Addr}{its:Array lD},SubS t s1.heap l its->l<s1.heap.objs.size:=λ{t l its} p=>by
    cases t
    .obtain⟨o,e,_⟩:=(show s1.heap.IsList l its from p);exact OR e
    .obtain⟨o,e,_⟩:=(show s1.heap.IsTuple l its from p);exact OR e
   refine⟨s1.heap.objs.size+4,_,_,_,N,rfl,m.kept (t':=s1.toks) L,Bj (xL (lt x) (lt u)),Z,λc J=>?_,q⟩;have d:s1.heap.objs.size≤c:=by
    have g:=J;simp at g;rcases g with rfl|rfl|rfl|rfl|rfl<;>first|exact acl _ _|exact Ad _
   exact m.fpOk d (m.hok.fresh d)
noncomputable def imS:R->Option (Bool×List dL)
 | .imm (.tuple ds)=>some (true,ds)
 | .imm (.list ds)=>some (false,ds)
 |_=>none
noncomputable def zipD(ds es:List dL):List dL:=(ds.zip es).map λp=>.tuple [p.1,p.2]
noncomputable abbrev Pk(A:WA):WI:=λm K=>A m λrs c=>match rs with|[r1,r2]=>∃t1 ds t2 es,imS r1=some (t1,ds)/\imS r2=some (t2,es)/\K ⟨zipD ds es,none⟩ c|_=>False
theorem zf{K:Kd}{k:Al}{d:Hp}{r:R}{v:V}(h:RelR K k d H r v)(e:imS r=some (t,ds)):∃l xs,v = .ref l/\DenAll K H ds xs/\(SqB t K H l xs)/\∀c,Pers H c->SqB t K c l xs:=by
 unfold imS at e
 split at e
 .cases e;let⟨l,xs,e,f,g⟩:=bI (h);exact⟨l,xs,e,g,f,λc p=>f.mono p⟩
 .cases e;have h':=h;let⟨l,xs,e,f,g⟩:=h';exact⟨l,xs,e,g,f.sq,λc p=>(f.mono p).sq⟩
 .cases e
def fv(ds es:List dL):(zipD ds es).length=min ds.length es.length:=by simp[zipD]
theorem uZ{d e:dL}(g:ds[i]?=some d)(c:es[i]?=some e):(zipD ds es)[i]?=some (.tuple [d,e]):=by
 unfold zipD;rw[GE,(List.getElem?_zip_eq_some (z:=(d,e))).mpr ⟨g,c⟩];rfl
theorem wks_zip{K:Kd}:Wks K (Itz t1 t2 K l1 l2) (zipD ds es) λH=>∃xs ys,SqB t1 K H l1 xs/\SqB t2 K H l2 ys/\DenAll K H ds xs/\DenAll K H es ys where
 stop:=λH ⟨xs,ys,c,k,g,m⟩=>⟨xs,ys,c,k,by rw[fv,<-g.length,<-m.length];omega⟩
 go:=λi H hi ⟨xs,ys,c,k,g,m⟩=>by
  rw[fv]at hi;exact⟨xs,ys,xs[i]'(by rw[<-g.length];omega),ys[i]'(by rw[<-m.length];omega),c,k,iO _,iO _⟩
 yld:=λi H x L hi ⟨xs,ys,c,k,g,m⟩ y=>by
  let⟨T,u,v,rfl,D,rfl,G,F⟩:=y;let⟨d,E,I⟩:=g.get2 (G xs c);let⟨e,C,J⟩:=m.get2 (F ys k);have r:∀b o,H b=some o->upd H T (.tup [u,v]) b=some o:=λb o q=>by rw[au (bf q D)];exact q
  have s:Pers H _:=⟨λb xs q=>r b _ q,λb o u q=>r b _ q⟩;refine⟨r,_,uZ E C,?_⟩;exact cR (SqT.of ay) (DenAll.cons (I.mono s) (DenAll.cons (J.mono s) DenAll.nil))
theorem K6(S:X.mg "zip" = none)(ha:MA X [a,b] A)(O:Gl X "zip":=by rfl)(hs:aac [a,b] X.env=[(false,eval a X.env),(false,eval b X.env)]:=by first|exact(ba rfl).trans (congrArg _ (cy rfl))|rfl)(o:aac [b] X.env=[(false,eval b X.env)]:=by first|exact cy rfl|rfl):MI X (.Tuple j B w) (.Call (.Name "zip" p) [a,b] [] pos) (Pk A):=(LS O S ha hs o).wk<|by
 intro σ H V ⟨E,m,U,G,L,fin⟩;refine⟨E,m,_,G,L,λrs M vs I k n R rr F=>?_⟩
 cases rr with
 |nil=>exact k.elim
 |cons y rr=>
  cases rr with
  |nil=>exact k.elim
  |cons x rr=>
  cases rr with
  |cons _ _=>exact k.elim
  |nil=>
  let⟨t1,ds,t2,es,P,D,k⟩:=k;let⟨l1,xs,rfl,N,r,J⟩:=zf y P;let⟨l2,ys,rfl,T,v,C⟩:=zf x D;refine⟨t1,t2,l1,l2,rfl,⟨xs,r⟩,⟨ys,v⟩,fin _ M _ I k n R F ⟨λH=>∃xs ys,SqB t1 X.kx H l1 xs/\SqB t2 X.kx H l2 ys/\DenAll X.kx H ds xs/\DenAll X.kx H es ys/\(∀e,Pers H e->SqB t1 X.kx e l1 xs)/\∀e,Pers H e->SqB t2 X.kx e l2 ys,wks_zip.imp<|by intro H ⟨xs,ys,a,b,c,d,_⟩;exact⟨xs,ys,a,b,c,d⟩,⟨xs,ys,r,v,N,T,J,C⟩,by intro W s ⟨xs,ys,a,b,c,d,u,q⟩ g;exact⟨xs,ys,u s g,q s g,c.mono g,d.mono g,λe p=>u e (g.trans p),λe p=>q e (g.trans p)⟩⟩⟩
end
theorem Jy{x:Nat}{c:Pos}{a b:Expr}{w:WA}{p pos:Pos}(e:X.mg "zip" = none)(ha:EA X [a,b] w)(g:Gl X "zip":=by rfl)(hs:aac [a,b] X.env=[(false,eval a X.env),(false,eval b X.env)]:=by first|exact(ba rfl).trans (congrArg _ (cy rfl))|rfl)(d:aac [b] X.env=[(false,eval b X.env)]:=by first|exact cy rfl|rfl):EI X (.Tuple elts x c) (.Call (.Name "zip" p) [a,b] [] pos) (Pk w):=⟨K6 e ha.h g hs d⟩
theorem gmap{c β:Type}{xs:List c}{y:β}{f:c->β}(h:(xs.map f)[i]?=some y):∃x,xs[i]?=some x/\y=f x/\i<xs.length:=by
 rw[GE]at h
 cases q:xs[i]? with
 |none=>rw[q]at h;cases h
 |some x=>rw[q]at h;exact⟨x,rfl,(aal h).symm,(DL.mp q).1⟩
theorem bQ{lo:Int}{d:dL}(h:(iw lo n)[i]?=some d):i<n/\d = .int (lo+(i:Int)):=by
 have hi:=by
  have:=(DL.mp h).1;rwa[aC]at this
 rw[ja hi]at h;exact⟨hi,(aal h).symm⟩
def qL{k:Nat}{P:MSt->Prop}{m:MSt}(c:List Nat)(m2:MSt)(N:Ren c (m.setV n (.obj k)) m2)(h:P m2):pq n P m (.obj k):=.inr ⟨c,m2,N,h⟩
noncomputable def RenO(c:List Nat)(o:Option R):Option R->Prop
 |none=>True
 |some r=>RenR c (some o) r
noncomputable def RenVs(c:List Nat):List (Option R)->List (Option R)->Prop
 |o::os,q::qs=>RenO c o q/\RenVs c os qs
 |[],[]=>True
 |_,_=>False
theorem RenVs.len{c:List Nat}:∀{os q:List (Option R)},RenVs c os q->q.length=os.length
 |[],[],_=>rfl
 |_::_,_::_,h=>congrArg (· + 1) (RenVs.len h.2)
 |[],_::_,h=>h.elim
 |_::_,[],h=>h.elim
theorem RenVs.get{d:List Nat}:∀{os c:List (Option R)},RenVs d os c->∀(j:Nat) (r:R),c[j]?=some (some r)->RenR d os[j]? r
 |o::os,q::c,h,0,r,e=>by
  have g:=by simpa using e
  subst g;exact h.1
 |o::os,q::c,h,j+1,r,e=>by simpa using RenVs.get h.2 j r ‹_›
 |[],[],_,_,_,e=>by simp at e
 |[],_::_,h,_,_,_=>h.elim
 |_::_,[],h,_,_,_=>h.elim
def FJ{c:List Nat}{m m2:MSt}(nd:decide c.Nodup=true)(lt:(c.all λk=>Nat.blt k m.os.length)=true)(pre:c.take m.np=aaw m.np)(npl:Nat.ble m.np c.length=true)(os:m2.os=c.map λk=>m.os.getD k [])(np:m2.np=m.np)(vs:RenVs c m.vs m2.vs):Ren c m m2:=
 ⟨of_decide_eq_true nd,λk d=>Nat.blt_eq.mp (ab2.mp lt k d),pre,aex npl,os,np,vs.len,λj r e=>vs.get j r e⟩
def JA{d:dL}(h:(zipD ds es)[i]?=some d):∃a b,ds[i]?=some a/\es[i]?=some b/\d = .tuple [a,b]:=by
 let⟨p,e,rfl,_⟩:=gmap h;let⟨c,g⟩:=List.getElem?_zip_eq_some.mp e;exact⟨p.1,p.2,c,g,rfl⟩
def uG{x:Str}(h:(afw x).shown.length≤40):Fine 40 0 (.str x):=⟨rfl,rfl,h,Ad _⟩
end L2
namespace M3
noncomputable def stepL(xs:List (List Nat))(r:Nat):List (List Nat):=xs.flatMap λa=>(aaw (r+1)).map λk=>a++[k]
noncomputable def allL(rs:List Nat):List (List Nat):=rs.foldl stepL [[]]
noncomputable def allR:List Nat->List (List Nat)
 |[]=>[[]]
 |r::rs=>(aaw (r+1)).flatMap λk=>(allR rs).map (k :: ·)
theorem pj:∀(rs:List Nat) (xs:List (List Nat)),rs.foldl stepL xs=xs.flatMap λa=>(allR rs).map (a++·)
 |[],xs=>by
  simp[allR]
 |r::rs,xs=>by
  rw[acA,pj rs];simp only[stepL,allR,List.flatMap_assoc,List.map_flatMap,List.flatMap_map,abc]
  congr 1
  funext a
  congr 1
  funext k
  congr 1
  funext l
  simp
def allL_eq(rs:List Nat):allL rs=allR rs:=by
 unfold allL;rw[pj];simp
theorem allR_len:∀{rs l:List Nat},l∈allR rs->l.length=rs.length
 |[],l,h=>by simp[allR]at h;subst h;rfl
 |r::rs,l,h=>by
  simp only[allR,abB,aae]at h;let⟨k,_,a,h,rfl⟩:=h;simp[allR_len h]
theorem stepL_length(xs:List (List Nat))(r:Nat):(stepL xs r).length=xs.length*(r+1):=by
 unfold stepL
 induction xs with
 |nil=>simp
 |cons a xs i=>
  grind
theorem uD:∀{rs:List Nat}{xs:List (List Nat)},(∀r∈rs,r≤6)->(rs.foldl stepL xs).length≤xs.length*7^rs.length
 |[],xs,_=>by simp
 |r::rs,xs,h=>by
  rw[acA];refine aak (uD λa b=>h a (Ge _ b)) ?_;rw[stepL_length,aaG,adk,ab4,abZ (7^rs.length)];refine Nat.mul_le_mul_left _ (adD _ ?_)
  simp_all
def fold_small{rs:List Nat}(a:rs.length≤4)(h:∀r∈rs,r≤6):(rs.foldl stepL [[]]).length≤2401:=by
 refine aak (uD h) ?_;have:7^rs.length≤7^4:=acu (by decide) a;simpa
def stepL_take{xs:List (List Nat)}{r j:Nat}{l:List Nat}(h:xs[j]?=some l):stepL (xs.take (j+1)) r=stepL (xs.take j) r++(aaw (r+1)).map λy=>l++[y]:=by
 unfold stepL;rw[aaQ,h];simp
end M3
set_option maxHeartbeats 4100000
namespace K
open PySem L2
variable{h:Hall}{l:List Nat}
noncomputable def Bi:SpM:=λas K=>∃n:List Int,as=[.imm (.list (n.map .int))]/\n.length≤63/\K (.imm (.bool true)) []
noncomputable def frD(a b:Int):dL:=.tuple [.int a,.int b]
structure Srv where
 a:Nat
 b:Nat
 r:Nat
noncomputable def Srv.d(s:Srv):dL:=.tuple [.tuple [.int s.a,.int s.b],.int s.r]
structure Srv.Ok(s:Srv):Prop where
 a1:1≤s.a
 a2:s.a<1000000
 b1:1≤s.b
 b2:s.b<1000000
 r1:1≤s.r
 r6:s.r≤6
structure Hall where
 a:Nat
 b:Nat
 ss:List Srv
 mv:Bool
noncomputable def Hall.d(h:Hall):dL:=.tuple [.tuple [.int h.a,.int h.b],.tuple (h.ss.map Srv.d),.bool h.mv]
structure Hall.Ok(h:Hall):Prop where
 a1:1≤h.a
 a2:h.a<1000000
 b1:1≤h.b
 b2:h.b<1000000
 n1:1≤h.ss.length
 n4:h.ss.length≤4
 ok:∀s∈h.ss,s.Ok
noncomputable def Hall.rs(h:Hall):List Nat:=h.ss.map Srv.r
def Hall.rsl(h:Hall):h.rs.length=h.ss.length:=by simp[Hall.rs]
def Hall.Ok.r6(o:h.Ok):∀r∈h.rs,r≤6:=λr hr=>by
 let⟨s,hs,rfl⟩:=aae.mp hr;exact(o.ok s hs).r6
def Hall.rs_get{i:Nat}{s:Srv}(e:h.ss[i]?=some s):h.rs[i]?=some s.r:=by simp[Hall.rs,e]
noncomputable def prD(p:Nat×Nat):dL:=.tuple [.int (p.1:Int),.int (p.2:Int)]
noncomputable def natD(l:List Nat):List dL:=l.map λ(k:Nat)=>.int (k:Int)
noncomputable def lnD(l:List Nat):dL:=.tuple (natD l)
def aq(l:List Nat):(natD l).length=l.length:=by simp[natD]
def aF{i x:Nat}(h:l[i]?=some x):(natD l)[i]?=some (.int (x:Int)):=by simp[natD,h]
def uR(a b:List Nat):natD (a++b)=natD a++natD b:=by simp[natD]
noncomputable def C9:SpM:=λas K=>∃h:Hall,as=[.imm h.d]/\h.Ok/\K (.new ((M3.allR h.rs).map lnD)) []
def uq{a b:Nat}(f:a<1000000000)(e:b<1000000000):Fine 33 1 (frD a b):=by
 refine bj (n:=13) (k:=0) (c:=2) (λd hd=>?_) (by simp);simp at hd;rcases hd with rfl|rfl
 .exact ik (by omega)
 .exact ik (by omega)
def Srv.Ok.fine{s:Srv}(o:s.Ok):Fine 73 2 s.d:=by
 refine bj (n:=33) (k:=1) (c:=2) (λd hd=>?_) (by simp);simp at hd;rcases hd with rfl|rfl
 .exact uq (by have:=o.a2;omega) (by have:=o.b2;omega)
 .have:=o.r6;exact(ik (by omega)).mono (by decide) (by decide)
def Hall.Ok.fine(o:h.Ok):Fine 1000 4 h.d:=by
 have a:Fine 303 3 (.tuple (h.ss.map Srv.d)):=(bj (n:=73) (k:=2) (c:=4) (λd hd=>by
  let⟨s,hs,rfl⟩:=aae.mp hd;exact(o.ok s hs).fine) (by rw[gE];exact o.n4)).mono (by decide) (by decide)
 refine(bj (n:=303) (k:=3) (c:=3) (λd hd=>?_) (by simp)).mono (by decide) (by decide);simp at hd;rcases hd with rfl|rfl|rfl
 .exact(uq (by have:=o.a2;omega) (by have:=o.b2;omega)).mono (by decide) (by decide)
 .exact a
 .exact(xU _).mono (by decide) (by decide)
def pg{c:Nat}(b:l.length≤c)(h:∀x∈l,x≤1000):Fine (c*15+3) 1 (lnD l):=by
 refine bj (λd hd=>?_) (by simpa[natD]);simp[natD]at hd;let⟨x,a,rfl⟩:=hd;have:=h x a;exact ik (by omega)
def y4(l:List Nat):Shp 1 (lnD l):=yz λd hd=>by
 simp[natD]at hd;let⟨x,a,rfl⟩:=hd;exact fj _
inductive Rule where
 |random|turns|two|least|quick
 |told (ps:List Nat)
noncomputable def Rule.word:Rule->Str
 | .random=> "random" | .turns=> "turns" | .two=> "two" | .least=> "least" | .quick=> "quick" | .told _=> "told"
noncomputable def Rule.d:Rule->dL
 | .told p=>.tuple [.str "told",lnD p]
 |r=>.tuple [.str r.word]
noncomputable def Rule.Ok(h:Hall):Rule->Prop
 | .told a=>a.length=(M3.allR h.rs).length/\∀p∈a,p<h.ss.length
 |_=>True
def gg{rs:List Nat}(a:rs.length≤4)(h:∀r∈rs,r≤6):(M3.allR rs).length≤2401:=by
 rw[<-M3.allL_eq];exact M3.fold_small a h
theorem Rule.Ok.fine(o:h.Ok){r:Rule}(k:r.Ok h):Fine 80000 2 r.d:=by
 have w:∀x:Str,(afw x).shown.length≤40->Fine 80000 2 (.tuple [.str x]):=λx a=>(bj (n:=40) (k:=0) (c:=1) (λd hd=>by simp at hd;subst hd;exact uG a) (by simp)).mono (by decide) (by decide)
 cases r with
 |random=>exact w _ (by decide +kernel)
 |turns=>exact w _ (by decide +kernel)
 |two=>exact w _ (by decide +kernel)
 |least=>exact w _ (by decide +kernel)
 |quick=>exact w _ (by decide +kernel)
 |told p=>
  let⟨b,e⟩:=k;have g:p.length≤2401:=by rw[b];exact gg (by rw[h.rsl];exact o.n4) o.r6
  have f:Fine 36018 1 (lnD p):=pg g λx a=>by have:=e x a;have:=o.n4;omega
  refine(bj (n:=36018) (k:=1) (c:=2) (λd hd=>?_) (by simp)).mono (by decide) (by decide);simp at hd;rcases hd with rfl|rfl
  .exact(uG (by decide +kernel)).mono (by decide) (by decide)
  .exact f
noncomputable def Lines(h:Hall)(l:List Nat):Prop:=l.length=h.ss.length/\∀(i:Nat) s x,h.ss[i]?=some s->l[i]?=some x->x≤s.r
theorem Lines.le(o:h.Ok)(k:Lines h l):∀x∈l,x≤6:=λx c=>by
 let⟨i,b,rfl⟩:=aa0.mp c;have a:i<h.ss.length:=by rw[<-k.1];exact b
 have:=k.2 i _ _ (iO a) (iO b);have:=(o.ok _ (abr a)).r6;exact aak ‹_› ‹_›
end K
namespace M7
open M3
noncomputable def placeF:Nat->List Nat->List Nat->Nat
 |acc,r::rs,x::l=>placeF (acc*(r+1)+x) rs l
 |acc,_,_=>acc
noncomputable def cnt:List Nat->Nat
 |[]=>1
 |r::rs=>(r+1)*cnt rs
theorem allR_cnt:∀rs:List Nat,(allR rs).length=cnt rs
 |[]=>rfl
 | r::rs=>by
  have a:=allR_cnt rs;have:∀n:Nat,((aaw n).flatMap λk=>(allR rs).map (k :: ·)).length=n*cnt rs:=by
   intro n
   induction n with
   |zero=>simp
   |succ n i=>rw[acU,adO,aaj,i];simp[a,afi]
  exact this _
theorem iY:∀{rs l:List Nat}{acc:Nat},l.length=rs.length->placeF acc rs l=acc*cnt rs+placeF 0 rs l
 |[],[],acc,_=>by simp[placeF,cnt]
 |r::rs,x::l,acc,h=>by
  have a:=by simpa using h
  simp only[placeF,cnt];rw[iY a,iY (acc:=0*_+x) a,Nat.add_mul,ab4];simp[ac5]
 |[],_::_,_,h=>by simp at h
 |_::_,[],_,h=>by simp at h
def gQ{r x:Nat}{rs l:List Nat}(h:l.length=rs.length):placeF 0 (r::rs) (x::l)=x*cnt rs+placeF 0 rs l:=by
 simp only[placeF];rw[iY h];simp
theorem xk{N:Nat}(f:Nat->List (List Nat))(a:∀k,(f k).length=N):∀(n k j:Nat),k<n->j<N->((aaw n).flatMap f)[k*N+j]?=(f k)[j]?
 |0,k,j,h,_=>by contradiction
 | n+1,k,j,h,hj=>by
  have c:((aaw n).flatMap f).length=n*N:=by
   clear h hj
   induction n with
   |zero=>simp
   |succ n i=>rw[acU,adO,aaj,i];simp[a,afi]
  rw[acU,adO]
  by_cases b:k<n
  .have:k*N+j<n*N:=by
    have:=adD N (show k+1≤n by assumption)
    grind
   rw[aaz (by omega),xk f a n k j b hj]
  .have e:k=n:=by omega
   simp_all
noncomputable def Fits:List Nat->List Nat->Prop
 |r::rs,x::l=>x≤r/\Fits rs l
 |[],[]=>True
 |_,_=>False
theorem Fits.len:∀{rs l:List Nat},Fits rs l->l.length=rs.length
 |[],[],_=>rfl
 |_::_,_::_,h=>congrArg (· + 1) h.2.len
 |[],_::_,h=>h.elim
 |_::_,[],h=>h.elim
theorem place_lt:∀{rs l:List Nat},Fits rs l->placeF 0 rs l<cnt rs
 |[],[],_=>by simp[placeF,cnt]
 |r::rs,x::l,h=>by
  rw[gQ h.2.len,cnt];have:=place_lt h.2;have a:=adD (cnt rs) (by have:=h.1;omega)
  grind
 |[],_::_,h=>h.elim
 |_::_,[],h=>h.elim
theorem place_at:∀{rs l:List Nat},Fits rs l->(allR rs)[placeF 0 rs l]?=some l
 |[],[],_=>rfl
 |r::rs,x::l,h=>by
  rw[gQ h.2.len];show((aaw _).flatMap λk=>(allR rs).map _)[_]?=_;rw[xk _ (λk=>by rw[gE,allR_cnt]) _ x _ (by have:=h.1;omega) (place_lt h.2),GE,place_at h.2];rfl
 |[],_::_,h=>h.elim
 |_::_,[],h=>h.elim
theorem place_only:∀{rs:List Nat}{i:Nat}{l:List Nat},(allR rs)[i]?=some l->i=placeF 0 rs l
 |[],0,l,h=>by
  rfl
 |[],i+1,l,h=>by simp[allR]at h
 | r::rs,i,l,h=>by
  have b:=(DL.mp h).1;rw[allR_cnt,cnt]at b;have n:0<cnt rs:=Nat.pos_of_ne_zero λz=>by rw[z]at b;simp at b
  have g:i/cnt rs<r+1:=Nat.div_lt_of_lt_mul (by rw[abZ];exact b);have j:=ahr i n;have e:i=i/cnt rs*cnt rs+i%cnt rs:=by rw[abZ];exact(Nat.div_add_mod i (cnt rs)).symm
  have a:=xk (N:=cnt rs) (λk=>(allR rs).map (k :: ·)) (λk=>by rw[gE,allR_cnt]) (r+1) _ _ g j;rw[<-e]at a;have d:((aaw (r+1)).flatMap λk=>(allR rs).map (k :: ·))[i]?=some l:=h;rw[d,GE]at a
  cases q:(allR rs)[i%cnt rs]? with
  |none=>rw[q]at a;cases a
  |some f=>
   rw[q]at a;have:l=(i/cnt rs)::f:=aal a;subst this;have c:=place_only q;have m:=allR_len (oR q);rw[gQ m,<-c,abZ];exact(Nat.div_add_mod i (cnt rs)).symm
noncomputable def pick(lt:Nat->Nat->Bool):Nat->List Nat->Nat
 |b,[]=>b
 |b,k::ks=>pick lt (if lt k b then k else b) ks
theorem ur{lt:Nat->Nat->Bool}:∀{a:List Nat}{b:Nat},pick lt b a=b\/pick lt b a∈a
 |[],b=>.inl rfl
 | k::a,b=>by
  simp only[pick];rcases ur with h|h
  .rw[h]
   by_cases q:lt k b=true
   .rw[if_pos q];exact .inr Io
   .rw[if_neg q];exact .inl rfl
  .exact .inr (Ge _ h)
theorem pick_app{lt:Nat->Nat->Bool}:∀{a:List Nat}{b k:Nat},pick lt b (a++[k])=if lt k (pick lt b a)then k else pick lt b a
 |[],b,k=>rfl
 |j::a,b,k=>by simp;exact pick_app
theorem placeF_take:∀{rs l:List Nat}{i acc r x:Nat},rs[i]?=some r->l[i]?=some x->placeF acc (rs.take (i+1)) (l.take (i+1))=placeF acc (rs.take i) (l.take i)*(r+1)+x
 |r0::rs,x0::l,0,acc,r,x,h1,h2=>by
  have a:=by simpa using h1
  have e:=by simpa using h2
  subst a e;rfl
 |r0::rs,x0::l,i+1,acc,r,x,h1,h2=>by
  simp;exact placeF_take ‹_› ‹_›
 |[],_,_,_,_,_,h1,_=>by simp at h1
 |_::_,[],_,_,_,_,_,h2=>by simp at h2
end M7
namespace K
open PySem L2 M7
variable{n:Nat}
noncomputable def Hall.an(h:Hall)(k:Nat):Nat:=(h.ss.map Srv.a).getD k 0
noncomputable def Hall.bn(h:Hall)(k:Nat):Nat:=(h.ss.map Srv.b).getD k 0
noncomputable def br(l:List Nat)(k b:Nat):Bool:=decide (l.getD k 0<l.getD b 0)
noncomputable def bO(h:Hall)(l:List Nat)(k b:Nat):Bool:=decide ((l.getD k 0+1)*h.bn k*h.an b<(l.getD b 0+1)*h.bn b*h.an k)
noncomputable def sent(h:Hall)(r:Rule)(l:List Nat)(t:Nat)(o:List Nat):Nat:=match r with
 | .random=>o.headD 0
 | .turns=>t
 | .two=>pick (br l) (o.headD 0) (o.take 2)
 | .least=>pick (br l) (o.headD 0) o
 | .quick=>pick (bO h l) (o.headD 0) o
 | .told p=>p.getD (placeF 0 h.rs l) 0
structure Ord(n:Nat)(o:List Nat):Prop where
 ne:o≠[]
 lt:∀k∈o,k<n
 le:o.length≤4
theorem Lines.fits{h:Hall}{l:List Nat}(k:Lines h l):Fits h.rs l:=by
 let⟨a,b⟩:=k;unfold Hall.rs;generalize h.ss=ss at a b
 induction ss generalizing l with
 |nil=>cases l with
  |nil=>trivial
  |cons _ _=>simp at a
 |cons s ss c=>cases l with
  |nil=>simp at a
  |cons x l=>exact⟨b 0 s x rfl rfl,c (by simpa using a) λi s x d e=>b (i+1) s x ‹_› ‹_›⟩
theorem getN{l:List Nat}{k:Nat}(a:l.length=n)(h:k<n):l[k]?=some (l.getD k 0):=by simp_all
def Hall.srv{h:Hall}{k:Nat}(a:k<h.ss.length):∃s,h.ss[k]?=some s/\h.an k=s.a/\h.bn k=s.b/\s∈h.ss:=by
 refine⟨h.ss[k],iO a,?_,?_,abr a⟩
 .exact bh (by rw[GE,iO a];rfl)
 .exact bh (by rw[GE,iO a];rfl)
noncomputable def FE:SpM:=λas K=>∃a b c d:Nat,as=[.imm (frD a b),.imm (frD c d)]/\a<1000000000000/\b<1000000000000/\c<1000000000000/\d<1000000000000/\K (.imm (.bool (decide (a*d<c*b)))) []
noncomputable def zk:SpM:=λas K=>∃(h:Hall) (l:List Nat),as=[.imm h.d,.imm (lnD l)]/\h.Ok/\Lines h l/\K (.imm (.int (placeF 0 h.rs l:Nat))) []
noncomputable def lR:SpM:=λas K=>∃(l o:List Nat),as=[.imm (lnD l),.imm (lnD o)]/\Ord l.length o/\K (.imm (.int (pick (br l) (o.headD 0) o:Nat))) []
noncomputable def FG:SpM:=λas K=>∃(h:Hall) (l:List Nat) (k:Nat),as=[.imm h.d,.imm (lnD l),.imm (.int (k:Int))]/\h.Ok/\Lines h l/\k<h.ss.length/\K (.imm (frD ((l.getD k 0+1)*h.bn k:Nat) (h.an k:Nat))) []
noncomputable def i6:SpM:=λas K=>∃(h:Hall) (l o:List Nat),as=[.imm h.d,.imm (lnD l),.imm (lnD o)]/\h.Ok/\Lines h l/\Ord h.ss.length o/\K (.imm (.int (pick (bO h l) (o.headD 0) o:Nat))) []
noncomputable def stD(l:List Nat)(t:Nat):dL:=.tuple [lnD l,.int (t:Int)]
noncomputable def jF:SpM:=λas K=>∃(h:Hall) (r:Rule) (l:List Nat) (t:Nat) (o:List Nat),as=[.imm h.d,.imm r.d,.imm (stD l t),.imm (lnD o)]/\h.Ok/\r.Ok h/\Lines h l/\Ord h.ss.length o/\K (.imm (.int (sent h r l t o:Nat))) []
theorem Ord.cons{o:List Nat}(h:Ord n o):∃k a,o=k::a/\k<n:=by
 cases o with
 |nil=>exact(h.ne rfl).elim
 |cons k a=>exact⟨k,a,rfl,h.lt k Io⟩
def f8{lt:Nat->Nat->Bool}{o:List Nat}(h:Ord n o)(i:Nat):pick lt (o.headD 0) (o.take i)<n:=by
 let⟨k,b,rfl,a⟩:=h.cons;rcases ur with e|e
 .rw[e];exact a
 .exact h.lt _ (acW e)
theorem ug:∀a b:List Nat,adr (natD a) (natD b)=decide (a=b)
 |[],[]=>by simp[natD,adr]
 |[],y::b=>by simp[natD,adr]
 |x::a,[]=>by simp[natD,adr]
 | x::a,y::b=>by
  have i:=ug a b;unfold natD at i;simp[natD,adr,aah,i]
  by_cases h:x=y
  .subst h;simp
  .have:¬_:=λz=>h (aib z)
   simp_all
def zt(a b:List Nat):aah (lnD a) (lnD b)=decide (a=b):=by
   exact ug a b
noncomputable def Rule.tl:Rule->List dL
 | .told p=>[lnD p]
 |_=>[]
def Rule.dc(r:Rule):r.d = .tuple (.str r.word::r.tl):=by cases r<;>rfl
def IJ{m:MSt}{K:R->Prop}{d x:dL}{ds:List dL}{i:Int}(e:d = .tuple ds)(h:atI ds i=some x)(k:K (.imm x)):qz (.imm d) (.imm (.int i)) m K:=by
 subst e;exact aE h k
end K
namespace L2
open PySem PySem.Spec PyProof.Rows
variable{t:Bool}{e it l:Addr}{items:Array lD}{Q:Option lD->mT->Prop}{ns:List Int}{i:Nat}{ds:List dL}{Kr:R->Prop}
def jQ{prog:aaD}{w:World}{A:aa6}(t:Bool)(c:A.handled=none)(I a:Addr)(b:a≠I)(items:Array lD):Walks prog w A I [I,a] [I] items.size (λi v=>items[i]?=some v) (λi h=>SubI t h I a i/\SubS t h a items):=by
 cases t
 .exact Walks.list c I a b items
 .exact Walks.tuple c I a b items
section
variable {prog:aaD}{w:World}{A:aa6}{E:lD->mT->Prop}{s:mT}
theorem nQ{Q:lD->mT->Prop}(c:SubS t s.heap l items)
  (h:∀s2:mT,s2={s with heap:=s.heap.push (itO t l)}->(SubI t s2.heap s.heap.objs.size l 0/\SubS t s2.heap l items)->(∀b∈[s.heap.objs.size,l],b<s2.heap.objs.size)->l≠s.heap.objs.size->Q (.ref s.heap.objs.size) s2):wpAny (model prog w) A (ae4 (.ref l)) Q E s:=by
 have a:l<s.heap.objs.size:=by
  cases t
  .obtain⟨_,e,_⟩:=(c);exact OR e
  .obtain⟨_,e,_⟩:=(c);exact OR e
 refine da c (h _ rfl ⟨?_,c.keep λo e=>AD _ e⟩ (λb hb=>?_) (aaS a))
 .cases t
  .exact⟨_,aaa _ rfl,rfl,rfl⟩
  .exact⟨_,aaa _ rfl,rfl,rfl⟩
 .rw[abx];simp at hb;rcases hb with rfl|rfl
  .simp
  .exact aem a
theorem nK{h':aaX}(a:∀b o,b∉[s.heap.objs.size]->(s.heap.push (itO t l)).get? b=some o->h'.get? b=some o):∀b o,s.heap.get? b=some o->h'.get? b=some o:=λb o e=>
 a b o (λh=>absurd (OR e) (by rw[aab.mp h];exact ac0 _)) (AD _ e)
theorem ku(hi:ag0 items.toList ns):∀(i:Nat) (v:lD),items[i]?=some v->∃t,v = .int (ns.getD i 0) t:=λi v e=>hi.int_at i v (by simpa)
end
section
variable {X:Cx}
noncomputable def rMax(K:LD):List V->Hp->VK->Prop:=λa H Q=>∃t l ns,a=[.ref l]/\SqB t K H l (ns.map V.int)/\ns≠[]/\∀x,x∈ns->(∀y∈ns,y≤x)->Q (.int x) H
def ui{b:Nat}(hb:b≤ns.length-1)(h:ns≠[]):ns.getD b 0∈ns:=by
 have a:b<ns.length:=by
  have:ns.length≠0:=λz=>h (abh z);omega
 rw[bh (iO a)];simp
theorem p6(z:X.calm=true):di X (.builtin "max") (rMax X.K):=by
 intro p s G H J F Q I C ⟨t,l,ns,ex,B,d,q⟩;subst ex;let⟨u,rfl,m⟩:=C.one;cases m;let⟨a,r,o,_⟩:=I.sqb B;have f:=jj r;have k:a.length=ns.length:=by have:=r.length;rw[gE]at this;omega
 refine call_max_walk (nQ o λs2 e st b c=>?_);subst e;refine⟨s.heap.objs.size,[s.heap.objs.size,l],[s.heap.objs.size],a.toArray.size,λi v=>a.toArray[i]?=some v,λi h=>SubI t h s.heap.objs.size l i/\SubS t h l a.toArray,_,rfl,jQ (A:=X.A.in1) t (I.ok.hd z) _ l c a.toArray,st,b,?_,CmpOf.ints_gt (λi=>ns.getD i 0) (ku f),λv E w n g=>?_⟩
 .grind
 .obtain⟨tt,rfl⟩:=ku f _ v n;rw[aav,k]at *;let⟨b1,b2⟩:=PySem.argBest_gt (λi=>ns.getD i 0) (ns.length-1);refine⟨.int _,H,I.kept (t':=w) (nK g),⟨_,rfl⟩,q _ (ui b1 d) λy x=>?_⟩;let⟨j,D,rfl⟩:=aa0.mp x;have:=b2 j (by omega);rwa[bh (iO D)]at this
noncomputable def rMin(K:LD):List V->Hp->VK->Prop:=λa H Q=>∃t l ns,a=[.ref l]/\SqB t K H l (ns.map V.int)/\ns≠[]/\∀x,x∈ns->(∀y∈ns,x≤y)->Q (.int x) H
theorem qp(B:X.calm=true):di X (.builtin "min") (rMin X.K):=by
 intro p s J H K G Q I D ⟨t,l,ns,ex,C,b,q⟩;subst ex;let⟨u,rfl,m⟩:=D.one;cases m;let⟨a,r,o,_⟩:=I.sqb C;have f:=jj r;have k:a.length=ns.length:=by have:=r.length;rw[gE]at this;omega
 refine call_min_walk (nQ o λs2 e st c d=>?_);subst e;refine⟨s.heap.objs.size,[s.heap.objs.size,l],[s.heap.objs.size],a.toArray.size,λi v=>a.toArray[i]?=some v,λi h=>SubI t h s.heap.objs.size l i/\SubS t h l a.toArray,_,rfl,jQ (A:=X.A.in1) t (I.ok.hd B) _ l d a.toArray,st,c,?_,CmpOf.ints_lt (λi=>ns.getD i 0) (ku f),λv F w n g=>?_⟩
 .have:ns.length≠0:=λz=>b (abh z);rw[aav];omega
 .obtain⟨tt,rfl⟩:=ku f _ v n;rw[aav,k]at *;let⟨b1,b2⟩:=PySem.argBest_lt (λi=>ns.getD i 0) (ns.length-1);refine⟨.int _,H,I.kept (t':=w) (nK g),⟨_,rfl⟩,q _ (ui b1 b) λy x=>?_⟩;let⟨j,E,rfl⟩:=aa0.mp x;have:=b2 j (by omega);rwa[bh (iO E)]at this
end
section
variable {prog:aaD}{w:World}{A:aa6}{E:lD->mT->Prop}{s:mT}
structure vd(t:Bool)(e it l:Addr)(k:Nat)(h:aaX):Prop where
 e:∃old,IsEnum h e it (k:Int) old
 s:SubI t h it l k
def yc{x:lD}(Z:vd t e it l i s.heap)(V:SubS t s.heap l items)(W:items[i]?=some x)(h:e≠it)
  (X:∀h',IsEnumOut h' e it ((i:Int)+1) x s.heap.objs.size->SubI t h' it l (i+1)->ae9 h' s.heap.objs.size (.int i s.toks) x->h'.objs.size=s.heap.objs.size+1 ->
   (∀b o,b∉[e,it]->s.heap.get? b=some o->h'.get? b=some o)->Q (some (.ref s.heap.objs.size)) {s with heap:=h',toks:=s.toks+1}):wpAny (model prog w) A (ach (.ref e)) Q E s:=by
 let⟨⟨old,C⟩,H⟩:=Z;have R:s.TypeIs (.ref e) "enumerate":=(⟨_,C,rfl⟩);unfold ach;refine aD (ab3 (aaF (name:=abY "__next__") R adt (aaJ adt R agn ?_ (af3 _))));rcases s with⟨hp,g,d,a,os⟩;refine aD (m:=field (.ref e) 2) (aba C rfl (x:=.ref it) rfl (aD (jK H V W λj n1 s1=>?_)));replace s1:abk it hp j:=s1;have M:IsEnum j e it i old:=(s1.2 e h).trans C;show wpAny _ _ (field (.ref e) 3 >>= _) _ _ ⟨j,g,d,a,os⟩;refine aD (aba M rfl (x:=adj i) rfl ?_);show wpAny _ _ (field (.ref e) 4 >>= _) _ _ ⟨j,g,d,a,os⟩;refine aD (aba M rfl (x:=.none) rfl ?_);refine aD (m:=mkInt i) (wpAny_mkInt ?_);show wpAny _ _ (acQ (.ref e) 3 (adj ((i:Int)+1)) >>= _) _ _ ⟨j,g,d,a+1,os⟩;refine aD (aat M (by simp) λB L s2=>?_);replace s2:abk e j B:=s2;replace L:IsEnum B e it ((i:Int)+1) old:=L;show wpAny _ _ (acQ (.ref e) 4 .none >>= _) _ _ ⟨B,g,d,a+1,os⟩;refine aD (aat L (by simp) λc P k=>?_);replace k:abk e B c:=k;replace P:IsEnum c e it ((i:Int)+1) old:=P;refine aD (m:=newTuple [.int i a,x]) (afv ?_);have D:IsEnum (c.push {cls:=.type "tuple",data:=.seq #[.int i a,x]}) e it ((i:Int)+1) old:=AD _ P;have f:c.objs.size=hp.objs.size:=by rw[k.1,s2.1,s1.1]
 have y:e<hp.objs.size:=OR C;have T:(c.push {cls:=.type "tuple",data:=.seq #[.int i a,x]}).get? hp.objs.size=some {cls:=.type "tuple",data:=.seq #[.int i a,x]}:=by rw[<-f];exact aaa _ rfl
 have S:(c.push {cls:=.type "tuple",data:=.seq #[.int i a,x]}).objs.size=hp.objs.size+1:=by rw[abx,f]
 have U:∀b o,b∉[e,it]->hp.get? b=some o->(c.push {cls:=.type "tuple",data:=.seq #[.int i a,x]}).get? b=some o:=λb o hb q=>by
  simp only[aam,abL,not_or,or_false]at hb;exact AD _ (k.extBut b o hb.1 (s2.extBut b o hb.1 (s1.extBut b o hb.2 q)))
 have n4:SubI t (c.push {cls:=.type "tuple",data:=.seq #[.int i a,x]}) it l (i+1):=((n1.ext s2.extBut (abf h)).ext k.extBut (abf h)).keep λo q=>AD _ q;generalize c.push {cls:=.type "tuple",data:=.seq #[.int i a,x]}=K at D T S U n4;show wpAny _ _ (abV (.ref e) >>= _) _ _ ⟨K,g,d,a+1,os⟩;rw[f];refine aD (m:=abV (.ref e)) (aD (m:=field (.ref e) 0) (aba D rfl (x:=.none) rfl (Dl ?_)));simp only[if_true];refine aD (abH (aD (aba D rfl (x:=old) rfl (aD (aat D (by simp) λv G F=>?_)))));replace F:abk e K v:=F;replace G:IsEnum v e it ((i:Int)+1) x:=G;show wpAny _ _ (acH (.ref e) (.ref hp.objs.size) >>= _) _ _ ⟨v,g,d,a+1,os⟩;refine aD (m:=acH (.ref e) (.ref hp.objs.size)) ?_;refine aD (m:=acQ (.ref e) 0 _) (aat G (by simp) λI J p=>?_);replace p:abk e v I:=p;replace J:IsEnumOut I e it ((i:Int)+1) x hp.objs.size:=J;refine aat J (by simp) λr O u=>?_;replace u:abk e I r:=u;replace O:IsEnumOut r e it ((i:Int)+1) x hp.objs.size:=O;have N:∀b o,b≠e->K.get? b=some o->r.get? b=some o:=λb o n q=>u.extBut b o n (p.extBut b o n (F.extBut b o n q));refine aD (afK (Dl ⟨_,rfl,Dl (X r O (n4.keep λo q=>N _ o (abf h) q) (N _ _ (aaY y) T) (by rw[u.1,p.1,F.1,S]) λb o hb q=>N b o (λz=>hb (by simp[z])) (U b o hb q))⟩))
def BW(k:A.handled=none)(Z:vd t e it l i s.heap)(j:SubS t s.heap l items)(p:items[i]?=none)
  (g:∀d,afJ it s.heap d->Q none {s with heap:=d}):wpAny (model prog w) A (ach (.ref e)) Q E s:=by
 let⟨⟨old,f⟩,h⟩:=Z;have c:s.TypeIs (.ref e) "enumerate":=(⟨_,f,rfl⟩);refine aD (ab3 (aaF c adt (aaJ adt c agn ?_ (af3 _))));refine aD (m:=field _ 2) (aba f rfl (x:=.ref it) rfl (aD (sD k h j p λq x a b=>?_)));let⟨o,ho,n⟩:=b;exact aD (ack ⟨o,ho,n⟩ ael (Dl (g _ a)))
end
open AutoSeq1 (wpAny_loadPart') in
set_option maxHeartbeats 1100000 in
def Bm(t:Bool)(l:Addr)(items:Array lD) :
  Meets (ac8.«enumerate.__new__» ⟨[.type "enumerate",.ref l],[]⟩) (λ_ R s=>SubS t s.heap l items/\
   R (.ok (.ret (.ref (s.heap.push (itO t l)).objs.size))) {s with heap:=(s.heap.push (itO t l)).push {cls:=.type "enumerate",data:=.fields #[.none,.bool false,.ref s.heap.objs.size,adj 0,.none,.none]} }):=
 .of_wp λprog w A R s h=>by
  rcases s with⟨hp,g,d,j,os⟩;rcases h with⟨f,h⟩;have b:=sub_enumerate;have a:SubS t (Shared.heap ⟨hp,g,d,j,os⟩) l items:=f
  wp_walk
  refine wpAny_stack_any λst=>?_;refine Dl ?_;split
  .rename_i c _ _ _ _ _
   cases c==age "enumerate"
   .wp_walk using da a
    exact⟨_,rfl,h⟩
   .wp_walk using da a
    exact⟨_,rfl,h⟩
  .wp_walk using da a
   exact⟨_,rfl,h⟩
section
variable {prog:aaD}{w:World}{A:aa6}{E:lD->mT->Prop}{s:mT}
def wZ{Q:lD->mT->Prop}(f:SubS t s.heap l items)
  (h:∀h',vd t (s.heap.objs.size+1) s.heap.objs.size l 0 h'->(∀b o,s.heap.get? b=some o->h'.get? b=some o)->Q (.ref (s.heap.objs.size+1)) {s with heap:=h' }):wpAny (model prog w) A (call (.type "enumerate") [.ref l]) Q E s:=by
 refine callType_new F.called_enumerate (by decide) (F.typeCall_enumerate_1 _) (F.newCall_enumerate_1 _) (λobj=>F.args_object_init_2 obj _) F.entry_enumerate_new (Bm t l items) ⟨f,?_⟩;have d:(s.heap.push (itO t l)).objs.size=s.heap.objs.size+1:=abx ..;rw[d];have c:((s.heap.push (itO t l)).push {cls:=.type "enumerate",data:=.fields #[.none,.bool false,.ref s.heap.objs.size,adj 0,.none,.none]}).get? (s.heap.objs.size+1)=some {cls:=.type "enumerate",data:=.fields #[.none,.bool false,.ref s.heap.objs.size,adj 0,.none,.none]}:=by
  rw[<-d];exact aaa _ rfl
 have a:((s.heap.push (itO t l)).push {cls:=.type "enumerate",data:=.fields #[.none,.bool false,.ref s.heap.objs.size,adj 0,.none,.none]}).get? s.heap.objs.size=some (itO t l):=AD _ (aaa _ rfl);refine⟨⟨_,c,rfl⟩,h _ ⟨⟨.none,c⟩,?_⟩ λb o x=>AD _ (AD _ x)⟩;cases t
 .exact⟨_,a,rfl,rfl⟩
 .exact⟨_,a,rfl,rfl⟩
end
noncomputable def Ite(t:Bool)(K:LD)(a:Addr):It where
 go:=λi H=>∃b x,SqB t K H a b/\b[i]?=some x
 yld:=λi H v c=>∃T x,v = .ref T/\H T=none/\c=upd H T (.tup [.int (i:Int),x])/\∀b,SqB t K H a b->b[i]?=some x
 stop:=λi H=>∃b,SqB t K H a b/\b.length≤i
def Ah{P:aaD}{w:World}{K:LD}{r:List Expr}{x1:Nat}{pos:Pos}{a:Addr}(m:e≠it):Turn P w K (.Tuple r x1 pos) (Ite t K a) [e,it] e (λi h=>vd t e it a i h) where
 mem:=by simp
 obj:=λi h st c b=>by
  let⟨⟨old,g⟩,j⟩:=st;simp only[aam,abL,or_false]at b;rcases b with rfl|rfl
  .exact⟨_,g,λv q=>by cases q⟩
  .obtain⟨o,vs,e,d⟩:=j.obj;exact⟨o,e,λv q=>by rw[d]at q;cases q⟩
 keep:=λi h h' st k=>by
  let⟨⟨old,g⟩,j⟩:=st;exact⟨⟨old,k e (by simp) _ g⟩,j.keep λo q=>k it (by simp) o q⟩
 item:=by
  intro X C G F b i f s O H E I y st N;subst C G F;let⟨Y,x,B,T⟩:=N;let⟨R,J,p,_⟩:=I.sqb B;let⟨u,V,ru⟩:=J.get T;refine yc st p (x:=u) (by simpa using V) m λh' a1 a2 W a4 a5=>⟨.ref s.heap.objs.size,rfl,?_⟩;refine wpAny_letOwnedTupleGo_enum (s:={s with heap:=h',toks:=s.toks+1}) a1 λA b1 sb=>?_;have L:H s.heap.objs.size=none:=I.hok.fresh (Ad _);have M:∀c∈[e,it],c<s.heap.objs.size:=λc b=>by
   let⟨⟨old,g⟩,j⟩:=st;simp only[aam,abL,or_false]at b;rcases b with rfl|rfl
   .exact OR g
   .obtain⟨o,vs,e,d⟩:=j.obj;exact OR e
  have S:∀c∈[e,it],c≠s.heap.objs.size:=λc b=>aaS (M c b);have D:∀c o,c≠e->h'.get? c=some o->A.get? c=some o:=λc o n q=>sb.extBut c o n q;have T2:ae9 A s.heap.objs.size (.int i s.toks) u:=D _ _ (abf (S e (by simp))) W;have I0:Inv X f O (upd H s.heap.objs.size (.tup [.int (i:Int),x])) {s with heap:=s.heap.push {cls:=.type "tuple",data:=.seq #[.int i s.toks,u]},toks:=s.toks+1}:=
   I.laid (o:=.tup [.int (i:Int),x]) (λc o q=>AD _ q) (Ad _) ⟨by show 2≤aad;rw[aag];decide,[.int i s.toks,u],.cons ⟨_,rfl⟩ (.cons ru .nil),PlainT.new _ _⟩
  have U:Inv X f O (upd H s.heap.objs.size (.tup [.int (i:Int),x])) {s with heap:=A,toks:=s.toks+1}:=by
   refine Inv.turneds (s:={s with heap:=s.heap.push {cls:=.type "tuple",data:=.seq #[.int i s.toks,u]},toks:=s.toks+1}) (h':=A) (t':=s.toks+1) (ch:=[e,it]) I0 (λc o b q=>?_) λc b=>?_
   .rcases aeW q with⟨rfl,rfl⟩|q
    .exact T2
    .exact D c o (λz=>b (by simp[z])) (a5 c o b q)
   .obtain⟨f0,f1⟩:=y c b;exact⟨by rw[au (S c b)];exact f0,f1⟩
  refine⟨.ref s.heap.objs.size,upd H s.heap.objs.size (.tup [.int (i:Int),x]),U,rfl,⟨_,x,rfl,L,rfl,λzs Z=>by rw[I.sqb_inj Z B];exact T⟩,⟨⟨u,?_⟩,a2.keep λo q=>D _ o (abf m) q⟩,λc b=>?_⟩
  .have:((i+1:Nat):Int)=(i:Int)+1:=by rfl
   rw[this];exact b1
  .rw[au (S c b)];exact(y c b).1
 done:=by
  intro X C G F b i f s O H E I y st N;subst C G F;let⟨Y,B,g⟩:=N;let⟨R,J,p,_⟩:=I.sqb B;have l1:=J.length;exact BW (I.ok.hd b) st p (by simp;omega) λh' hk=>⟨rfl,I.turneds (t':=s.toks) (ch:=[e,it]) (λc o b q=>hk c o (λz=>b (by simp[z])) q) y⟩
 self:=λ_ _ _ _ _ st h=>by let⟨⟨old,g⟩,_⟩:=st;exact wpAny_pyIter_enum g h
section
variable {X:Cx}{f:List Expr}{z:Nat}{j:Pos}{a:Expr}{w:WA}{p pos:Pos}
noncomputable def Rf(K:LD)(ta:TA):TI:=λc H R=>ta c H λvs b=>∃t l,vs=[.ref l]/\(∃x,SqB t K b l x)/\R (Ite t K l) b
theorem JO{ta:TA}(x:Gl X "enumerate")(C:X.mg "enumerate" = none)(ha:PA X [a] ta)(hs:aac [a] X.env=[(false,eval a X.env)]:=by first|exact cy rfl|rfl):PI X (.Tuple f z j) (.Call (.Name "enumerate" p) [a] [] pos) (Rf X.K ta):=by
 intro g s A H R I h;refine Call_ (l8 I x C qk (acI (thn (ha pos g s A H _ I h) λF s1 ⟨vs,y,k,r1,n⟩=>?_) hs rfl));let⟨t,l,e,⟨G,m⟩,q⟩:=n;subst e
 cases r1 with
 | cons r rr=>
  cases rr;cases r;let⟨B,J,u,_⟩:=k.sqb m;refine wZ u λE Z v=>?_;let⟨old,D⟩:=Z.e;refine wpAny_pyIter_enum D ⟨s1.heap.objs.size+1,_,_,_,y,rfl,k.kept (t':=s1.toks) v,Ah (Nat.succ_ne_self _),Z,λc o=>?_,q⟩;have b:s1.heap.objs.size≤c:=by
   have d:=o;simp at d;rcases d with rfl|rfl<;>first|exact acl _ _|exact Ad _
  exact k.fpOk b (k.hok.fresh b)
noncomputable def xq(ds:List dL):List dL:=zipD (iw 0 ds.length) ds
noncomputable abbrev DU(w:WA):WI:=λm K=>w m λrs b=>on1 (λr=>∃t ds,imS r=some (t,ds)/\K ⟨xq ds,none⟩ b) rs
def dM(ds:List dL):(xq ds).length=ds.length:=by unfold xq;rw[fv,aC];simp
def qf{d:dL}(h:ds[i]?=some d):(xq ds)[i]?=some (.tuple [.int (i:Int),d]):=by
 have b:=(DL.mp h).1;have:=uZ (ja (lo:=0) b) h;rw[aen]at this;exact this
theorem wks_enum{K:Kd}:Wks K (Ite t K l) (xq ds) λH=>∃xs,SqB t K H l xs/\DenAll K H ds xs where
 stop:=λH ⟨xs,q,g⟩=>⟨xs,q,by rw[dM,g.length];exact Ad _⟩
 go:=λi H h ⟨xs,q,g⟩=>by
  rw[dM]at h;exact⟨xs,xs[i]'(by rw[<-g.length];exact h),q,iO _⟩
 yld:=λi H x v h ⟨xs,q,g⟩ y=>by
  let⟨T,u,rfl,k,rfl,r⟩:=y;let⟨d,m,s⟩:=g.get2 (r xs q);have c:∀b o,H b=some o->upd H T (.tup [.int i,u]) b=some o:=λb o q=>by rw[au (bf q k)];exact q
  have n:Pers H _:=⟨λb xs q=>c b _ q,λb o u q=>c b _ q⟩;exact⟨c,_,qf m,cR (SqT.of ay) (DenAll.cons (tm _) (DenAll.cons (s.mono n) DenAll.nil))⟩
theorem Iq(D:X.mg "enumerate" = none)(ha:MA X [a] w)(s:Gl X "enumerate":=by rfl)(hs:aac [a] X.env=[(false,eval a X.env)]:=by first|exact cy rfl|rfl):MI X (.Tuple f z j) (.Call (.Name "enumerate" p) [a] [] pos) (DU w):=(JO s D ha hs).wk<|by
 intro K H J ⟨A,m,M,B,G,fin⟩;refine⟨A,m,_,B,G,λrs I vs C k n R rr F=>?_⟩;let⟨r,v,rfl,rfl,o,t,ds,y,k⟩:=dH rr k;let⟨l,x,rfl,h,q,E⟩:=zf o y;refine⟨t,l,rfl,⟨x,q⟩,fin _ I _ C k n R F ⟨λH=>∃x,SqB t X.kx H l x/\DenAll X.kx H ds x/\∀b,Pers H b->SqB t X.kx b l x,wks_enum.imp λH ⟨x,a,c,_⟩=>⟨x,a,c⟩,⟨x,q,h,E⟩,λL u ⟨x,a,c,g⟩ d=>⟨x,g u d,c.mono d,λb p=>g b (d.trans p)⟩⟩⟩
theorem AK(b:X.mg "enumerate" = none)(ha:EA X [a] w)(h:Gl X "enumerate":=by rfl)(hs:aac [a] X.env=[(false,eval a X.env)]:=by first|exact cy rfl|rfl):EI X (.Tuple f z j) (.Call (.Name "enumerate" p) [a] [] pos) (DU w):=⟨Iq b ha.h h hs⟩
end
section
variable {X:Cx}
noncomputable def J5:WC:=λrs m K=>on1 (λr=>∃ds ns,sqOf m r=some ds/\du ds=some ns/\ns≠[]/\∀x,x∈ns->(∀y∈ns,y≤x)->K (.imm (.int x))) rs
theorem gc(j:X.calm=true):di X (.builtin "max") (cM X.kx J5):=by
 intro p s c H C u Q I k ⟨A,m,B,y,rs,K,R,h,ho,fin⟩;let⟨r,v,rfl,rfl,d,ds,ns,q,w,b,ho⟩:=dH h ho;let⟨a,z,rfl,f,g⟩:=d.seq R q;rw[i9 w]at g;have o:=fe g;subst o;have go:=λx d n=>fin _ _ H (ho x d n) R (dB _) (Frm.refl _ _);rcases f with f|f
 .exact p6 j p s c H _ u Q I k ⟨false,a,ns,rfl,f,b,go⟩
 .exact p6 j p s c H _ u Q I k ⟨true,a,ns,rfl,f,b,go⟩
def u6{m:MSt}{r:R}(b:sqOf m r=some ds)(c:du ds=some ns)(a:ns≠[])(h:∀x,x∈ns->(∀y∈ns,y≤x)->Kr (.imm (.int x))):J5 [r] m Kr:=⟨ds,ns,b,c,a,h⟩
noncomputable def OG:WC:=λrs m K=>on1 (λr=>∃ds ns,sqOf m r=some ds/\du ds=some ns/\ns≠[]/\∀x,x∈ns->(∀y∈ns,x≤y)->K (.imm (.int x))) rs
theorem vK(j:X.calm=true):di X (.builtin "min") (cM X.kx OG):=by
 intro p s c H C u Q I k ⟨A,m,B,y,rs,K,R,h,ho,fin⟩;let⟨r,v,rfl,rfl,d,ds,ns,q,w,b,ho⟩:=dH h ho;let⟨a,z,rfl,f,g⟩:=d.seq R q;rw[i9 w]at g;have o:=fe g;subst o;have go:=λx d n=>fin _ _ H (ho x d n) R (dB _) (Frm.refl _ _);rcases f with f|f
 .exact qp j p s c H _ u Q I k ⟨false,a,ns,rfl,f,b,go⟩
 .exact qp j p s c H _ u Q I k ⟨true,a,ns,rfl,f,b,go⟩
def NQ{m:MSt}{r:R}(b:sqOf m r=some ds)(c:du ds=some ns)(a:ns≠[])(h:∀x,x∈ns->(∀y∈ns,x≤y)->Kr (.imm (.int x))):OG [r] m Kr:=⟨ds,ns,b,c,a,h⟩
end
open SeqAt in
open AutoSeq1 (wpAny_loadPart') in
theorem tZ(l:Addr)(items:Array lD)(n:Nat)(v:Option Addr)(r:Array (Option lD))(x:lD)(e:lD->Bool)(j:Nat)(D:j<items.size)(o:e items[j]=true)(k:∀m (C:m<items.size),m<j->e items[m]=false) :
  Meets (ac8.«tuple.index» ⟨[.ref l,x],[]⟩)
   (λA R s=>s.heap.get? l=some {cls:=.type "tuple",dict:=v,data:=.seq items n,slots:=r}/\(∀y,y∈items->EqAt A.in1 s y x (e y))/\R (.ok (.ret (.int j s.toks))) {s with toks:=s.toks+1}):=
 .of_wp λprog w A R s h=>by
  rcases s with⟨hp,g,d,u,os⟩;rcases h with⟨q,z,h⟩
  (wp_walk using afb q)
  refine(show wpAny (model prog w) A.in1 (forIn ([:min items.size items.size]:Std.Legacy.Range) _ _) _ _ _ from ?_);simp only[Std.Legacy.Range.forIn_eq_forIn_range'];have B:ahY (0:Nat) (min items.size items.size) 1=ahY 0 items.size 1:=by rw[Nat.min_self]
  refine aeG _ (λrest (b:Option _×Unit) f=>b.1=none/\f=⟨hp,g,d,u,os⟩/\∃i,i≤j/\rest=ahY i (items.size-i) 1) _ ?turn ?fin _ _ ?start
  case turn=>
   intro i rest b f ⟨hb,rfl,c,hi0,hr⟩;have a:c<items.size:=by omega
   have hs:items.size-c=(items.size-(c+1))+1:=by omega
   rw[hs,List.range'_succ]at hr;cases hr;rw[show items[i]?=some items[i]from abu a];refine aD (z items[i] (Array.getElem_mem a) prog w _ _ ?_)
   by_cases p:i=j
   .subst p;rw[o]
    wp_walk
    exact⟨_,rfl,h⟩
   .rw[k i a (by omega)]
    wp_walk
    exact⟨rfl,rfl,i+1,by omega,rfl⟩
  case fin=>
   intro⟨b1,b2⟩ f ⟨hb,rfl,c,hi0,hr⟩;have:=congrArg aeU hr;simp at this;omega
  case start=>
   refine⟨rfl,rfl,0,act _,?_⟩;simp[Std.Legacy.Range.size]
section
variable {X:Cx}{o e:Expr}{es:List Expr}{w:WE}{l:WA}{b c:Pos}
noncomputable abbrev wMT(a:WM)(w:WE)(l:WA):WE:=λm K=>w m λr m1=>(∃ds,r = .imm (.tuple ds))/\l m1 λrs m2=>a r rs m2 K
theorem Rh{name:Str}{id:String}{C:WM}(slot:Slot "tuple" name id)(A:typeOf (.builtin id)=pure (.type "method_descriptor"))(L:MtM X id (mM X.kx C))(ho:ME X o w)(ha:MA X (e::es) l)
  (d:abz o name X.env (eval o X.env)=eval o X.env:=by rfl)
  (p:((acg c (aac (e::es) X.env)).all (λx=>!x.1)&&(afq c (adB [] X.env)).all (λx=>x.1.isSome)
   && decide ((e::es).length+([]:List ade).length+(if ([]:List ade).isEmpty then 0 else 1)<30))=true:=by rfl)
  (j:(b.endLine==c.line)=true:=by rfl) (hs:aac (e::es) X.env=(false,eval e X.env)::aac es X.env:=by first|exact ba rfl|rfl) (h:(acg c (aac es X.env)).any (·.1)=false:=by rfl) :
  ME X (.Call (.Attribute o name b) (e::es) [] c) (wMT C w l):=(Kh PySem.F.plainAttrs_tuple slot A L ho ha d p j hs h).wk<|by
 intro I H Q ⟨y,m,O,E,M,fin⟩;refine⟨y,m,_,E,M,λr m1 v G k n1 R rr D=>?_⟩;let⟨⟨ds,rfl⟩,k⟩:=k;let⟨a,J,rfl,f,g⟩:=bI (rr);refine⟨.inr (.inl ⟨rfl,J,f⟩),y,m1,_,R,k,λrs m2 vs S P n2 q s u=>?_⟩;exact⟨y,m2,I,H,G,.imm _,rs,O,q,rr.keep E R u,s,P,λr N v K k n B z F=>fin r N v K k (n.trans (n2.trans n1)) B (z.base q (D.trans u)) ((D.trans u).trans F)⟩
theorem vf{name:Str}{id:String}{j:WM}(slot:Slot "tuple" name id)(g:typeOf (.builtin id)=pure (.type "method_descriptor"))(k:MtM X id (mM X.kx j))(ho:EE X o w)(ha:EA X (e::es) l)
  (a:abz o name X.env (eval o X.env)=eval o X.env:=by rfl)
  (f:((acg c (aac (e::es) X.env)).all (λx=>!x.1)&&(afq c (adB [] X.env)).all (λx=>x.1.isSome)
   && decide ((e::es).length+([]:List ade).length+(if ([]:List ade).isEmpty then 0 else 1)<30))=true:=by rfl)
  (d:(b.endLine==c.line)=true:=by rfl) (hs:aac (e::es) X.env=(false,eval e X.env)::aac es X.env:=by first|exact ba rfl|rfl) (h:(acg c (aac es X.env)).any (·.1)=false:=by rfl) :
  EE X (.Call (.Attribute o name b) (e::es) [] c) (wMT j w l):=⟨Rh slot g k ho.h ha.h a f d hs h⟩
def x_ts{P:Prop}(h:P):(∃es,R.imm (.tuple ds) = .imm (.tuple es))/\P:=⟨⟨ds,rfl⟩,h⟩
noncomputable def xY:WM:=λr rs m K=>on1 (i7 λd=>∃ds j,r = .imm (.tuple ds)/\d.canLay0=true/\aa3 ds=true/\d.depth≤60/\(∃y,ds[j]?=some y/\aah y d=true)/\(∀(i:Nat) y,i<j->ds[i]?=some y->aah y d=false)/\K (.imm (.int (j:Nat))) m) rs
theorem gu(hu:X.A.units+64<cLine):MtM X "tuple.index" (mM X.kx xY):=by
 intro M s σ' H x xs v us Q I T rv ⟨α,m,σ,H0,H1,r,rs,Kc,Z,U,C,ho,fin⟩;let⟨r2,v2,rfl,rfl,C,ho⟩:=dH C ho;let⟨d,rfl,hd,ds,j,rfl,O,G,dp,⟨y,K,eq⟩,D,ho⟩:=fE C ho;let⟨a,zs,rfl,f,g⟩:=bI (show Den X.kx H (.tuple ds) x from U);cases T;let⟨u,rfl,V⟩:=rv.one;let⟨bs,S⟩:=Den.reads I (abe _ O) hd V;let⟨h,E,⟨o,z,N,F,n,k⟩,hz⟩:=I.tupleP f;let⟨as,A⟩:=DenAll.reads I (acj _ G) g E;have hm:X.A.units+1+min (aaq ds) d.depth<cLine:=by have:=aeE (aaq ds) d.depth;omega
 have p:=ahp ds _ _ G A;have L:h.length=ds.length:=by rw[<-p,gE]
 have R:j<h.length:=by rw[L];exact(DL.mp K).1
 have J:∀(i:Nat) (B:i<h.length) y,ds[i]?=some y->adi s.heap h[i]=y:=λi B y e=>by
  rw[<-p,GE,iO B]at e;exact aal e
 let⟨W,dd,P,Y⟩:=o;dsimp only at N k;subst N;subst k;refine ad7 acp ⟨_,z,rfl⟩ PySem.F.entry_tuple_index (PySem.F.args_tuple_index_2 _ _)
  (tZ a h.toArray _ dd Y u (λy=>aah (adi s.heap y) d) j (by simpa using R) ?_ ?_) ⟨z,ahP (by simpa using A) S G O hm,?_⟩
 .show aah (adi s.heap h[j]) d=true;rw[J j R y K];exact eq
 .intro i B hlt;have q:i<h.length:=by simpa using B
  show aah (adi s.heap h[i]) d=false;have hi2:i<ds.length:=by rw[<-L];exact q
  rw[J i q _ (iO hi2)];exact D i _ hlt (iO hi2)
 .exact⟨.int (j:Nat),H,I.tok _,⟨_,rfl⟩,fin _ _ _ H ho rfl Z (dB _) (Frm.refl _ _)⟩
def jG{m:MSt}{d y:dL}{j k k':Nat}{K:R->MSt->Prop}(s1:Shp k d)(s2:∀y∈ds,Shp k' y)(g:k≤60)(f:ds[j]?=some y)(eq:aah y d=true)(a:∀(i:Nat) y,i<j->ds[i]?=some y->aah y d=false)(h:K (.imm (.int (j:Nat))) m):xY (.imm (.tuple ds)) [.imm d] m K:=
 ⟨ds,j,rfl,s1.cl,(lg s2).1,aak s1.dp g,⟨y,f,eq⟩,a,h⟩
end
def v6:fillsNumberSlot (.type "tuple") "mul" = pure false:=
 PySem.fillsNumberSlot_seq aeo.lookup rfl af4.lookup rfl
def Ga:seqRepeat? (.type "tuple")=pure (some (.builtin "tuple.__mul__")):=by
 unfold seqRepeat?;rw[ahR (name:= "__mul__") aeo.lookup rfl,ahR (name:= "__rmul__") af4.lookup rfl];rfl
def Bg(a:Int)(t:Tok)(l:Addr)(items:Array lD)(n:Nat)(d:Option Addr)(b:Array (Option lD)) :
  Meets (ac8.«int.__rmul__» ⟨[.int a t,.ref l],[]⟩) (λ_ R s=>s.heap.get? l=some {cls:=.type "tuple",dict:=d,data:=.seq items n,slots:=b}/\R (.ok (.ret lD.notImplemented)) s):=
 .of_wp λprog w A R s h=>by
  rcases h with⟨c,h⟩
  wp_walk
  exact⟨_,rfl,h⟩
open AutoSeq1 (wpAny_loadPart') in
theorem Iu(l:Addr)(items:Array lD)(n:Nat)(E:Option Addr)(C:Array (Option lD))(k:Int)(t:Tok)(H:0≤k)(G:k<2^20)(I:items.size*k.toNat≤1000000) :
  Meets (ac8.«tuple.__mul__» ⟨[.ref l,.int k t],[]⟩) (λ_ R s=>s.heap.get? l=some {cls:=.type "tuple",dict:=E,data:=.seq items n,slots:=C}/\
   if (items.isEmpty||k==1)=true then R (.ok (.ret (.ref l))) s else R (.ok (.ret (.ref s.heap.objs.size))) {s with heap:=s.heap.push {cls:=.type "tuple",data:=.seq ((aai k.toNat items).foldl (λx c=>x++c) #[])} }):=
 .of_wp λprog w A R s h=>by
  rcases s with⟨hp,g,d,u,os⟩;rcases h with⟨o,h⟩
  (wp_walk using afb o)
  have v:(⟨hp,g,d,u,os⟩:mT).TypeIs (.ref l) "tuple":=(⟨_,o,rfl⟩);have r:IsTup (⟨hp,g,d,u,os⟩:mT).heap l items:=⟨_,o,rfl,n,rfl⟩;have z:((items.size:Nat):Int)*k≤1000000:=by
   have B:k=((k.toNat:Nat):Int):=by omega
   rw[B,<-aap];omega
  rw[if_neg (show ¬_ by simp only[decide_eq_true_eq,agx];omega)];refine aD (ahg r ?_)
  by_cases j:(items.isEmpty||k==1)=true
  .rw[if_pos j]at h⊢;refine aD ?_;unfold aft;refine aD (add v (Dl ?_));rw[if_pos (by rfl)];exact aD (abH (Dl ⟨_,rfl,h⟩))
  .rw[if_neg j]at h⊢;have F:items.isEmpty=false:=by
    cases q:items.isEmpty with
    |false=>rfl
    |true=>rw[q]at j;exact(j rfl).elim
   by_cases p:k=0
   .subst p;show wpAny _ _ (if (decide ((0:Int)≤0)||items.isEmpty)=true then _ else _) _ _ _;rw[if_pos (by rfl)];exact aD (m:=abU #[]) (aaV (Dl ⟨_,rfl,h⟩) (by show(0:Nat)≤aad;exact act _))
   have y:(decide (k≤0)||items.isEmpty)=false:=by rw[F,decide_eq_false (by omega)];rfl
   have f:∀(m:Nat) (a:Array lD),(ah5 (λx c=>x++c) a (aai m items)).size=a.size+m*items.size:=by
    intro m
    induction m with
    |zero=>intro a;simp
    |succ m D=>intro a;rw[adN,acA,D,Array.size_append,afi];omega
   have b:((aai k.toNat items).foldl (λx c=>x++c) #[]).size≤aad:=by
    rw[f,aag,abZ];simp;omega
   show wpAny _ _ (if (decide (k≤0)||items.isEmpty)=true then _ else _) _ _ _;rw[if_neg (by rw[y];exact aax)];show wpAny _ _ (if ((items.size:Nat):Int)*k>(2^63-1)/8 then _ else _) _ _ _;rw[if_neg (by omega)];show wpAny _ _ (if afx (((items.size:Nat):Int)*k)=true then _ else _) _ _ _;rw[if_neg (by unfold afx;rw[decide_eq_true_eq,aag];omega)];exact aD (m:=abU _) (aaV (Dl ⟨_,rfl,h⟩) b)
section
variable {X:Cx}
noncomputable def QI(K:LD):R2:=λx y H Q=>∃a b k,x = .ref a/\y = .int k/\SqT K H a b/\0≤k/\k<2^20/\b.length*k.toNat≤1000000/\
 if (b.isEmpty||k==1)=true then Q (.ref a) H else ∀p,H p=none->Q (.ref p) (upd H p (.tup (aai k.toNat b).flatten))
theorem GF:OpR X (acs .Mult) (QI X.K):=by
 intro z s O H x y v u Q I F L h;let⟨a,d,k,rfl,rfl,M,E,C,K,q⟩:=h;cases F;let⟨t,rfl⟩:=L;let⟨c,r,⟨o,ho,j,hd,n,g⟩,J⟩:=I.tupleP M;let⟨G,A,B,w⟩:=o;dsimp only at j g;subst j g;have m:d.length=c.length:=r.length;have p:c.toArray.isEmpty=d.isEmpty:=by
  cases c with
  |nil=>have:d=[]:=abh (by simpa using m);subst this;rfl
  |cons _ _=>cases d with
   |nil=>simp at m
   |cons _ _=>rfl
 have f:=by
  have:=kQ c k.toNat [];omega
 refine afF (T:= "tuple") (U:= "int") (by decide) ⟨_,ho,rfl⟩ (λD=>agk D k t) v6 PySem.F.fills_int_mul agD Ga PySem.F.slot_int_index.lookup
  (ad7 agD (agk s k t) PySem.F.entry_int_rmul (PySem.F.args_int_rmul_2 _ _) (Bg k t a c.toArray n A w)
   ⟨ho,rfl,⟨_,ho,rfl⟩,ad7 aeo ⟨_,ho,rfl⟩ PySem.F.entry_tuple_mul (PySem.F.args_tuple_mul_2 _ _) (Iu a c.toArray n A w k t E C (by rw[aav,<-m];exact K)) ⟨ho,?_⟩⟩)
 rw[p,f]
 by_cases j:(d.isEmpty||k==1)=true
 .rw[if_pos j]at q⊢;exact⟨.ref a,H,I,rfl,q⟩
 .rw[if_neg j]at q⊢;have hp:H s.heap.objs.size=none:=I.hok.fresh (Ad _);refine⟨.ref s.heap.objs.size,_,I.laid (t':=s.toks) (o:=.tup (aai k.toNat d).flatten) (λb N e=>AD _ e) (Ad _) ⟨?_,_,r.rep k.toNat,PlainT.new _ _⟩,rfl,q _ hp⟩;rw[AA,abZ,aag];omega
noncomputable def yq:WO
 | .imm (.int i),.imm (.int j),_,K=>afY i j/\K (.imm (.int (i*j)))
 | .imm (.tuple ds),.imm (.int k),_,K=>0≤k/\k<2^20/\ds.length*k.toNat≤1000000/\K (.imm (.tuple (aai k.toNat ds).flatten))
 | .new ds,.imm (.int k),_,K=>0≤k/\k<2^20/\ds.length*k.toNat≤1000000/\K (.new (aai k.toNat ds).flatten)
 |_,_,_,_=>False
theorem ji{K:Kd}{H:Hp}{ds:List dL}{xs:List V}(g:DenAll K H ds xs):∀k:Nat,DenAll K H (aai k ds).flatten (aai k xs).flatten
 |0=>by simp[ DenAll]
 |k+1=>by rw[ adN];exact g.append (ji g k)
theorem aA:OpR X (acs .Mult) (rM X.kx yq):=by
 intro b s c H x y v u Q I r w ⟨F,m,G,C,E,r1,J,K,R,o,n,ho,fin⟩;unfold yq at ho
 split at ho
 .rename_i i j;exact GI b s c H x y v u Q I r w ⟨F,m,G,C,E,.imm (.int i),.imm (.int j),K,R,o,n,ho,fin⟩
 .rename_i ds k;let⟨A,B,z,ho⟩:=ho;let⟨a,d,rfl,f,g⟩:=bI (show Den X.kx H (.tuple ds) x from o);have q:=aM (show Den X.kx H (.int k) y from n);subst q;refine GF b s c H _ _ v u Q I r w ⟨a,d,k,rfl,rfl,f,A,B,by rw[<-g.length];exact z,?_⟩
  by_cases h:(d.isEmpty||k==1)=true
  .rw[if_pos h];refine fin _ _ H ho R (lG (cR f ?_)) (Frm.refl _ _);have e:(aai k.toNat ds).flatten=ds:=by
    rw[agx]at h;rcases h with h|h
    .have hx:d=[]:=List.isEmpty_iff.mp h;have hd:ds=[]:=abh (by rw[g.length,hx];rfl);subst hd;simp
    .simp_all
   rw[e];exact g
  .rw[if_neg h];exact λp hp=>fin _ _ _ ho (R.lay hp) (lG (cR (SqT.of ay) ((ji g k.toNat).mono (bu (.inl hp))))) (cz hp)
 .rename_i ds k;let⟨A,B,z,ho⟩:=ho;let⟨a,d,rfl,hb,D,g⟩:=o;have q:=aM (show Den X.kx H (.int k) y from n);subst q;refine KZ b s c H _ _ v u Q I r w ⟨a,k,d,rfl,rfl,D,by omega,by omega,by rw[<-g.length,aag];omega,λp hp=>?_⟩;exact fin _ _ _ ho (R.lay hp) ⟨p,_,rfl,hp,ay,(ji g k.toNat).mono (bu (.inl hp))⟩ (cz hp)
 .exact ho.elim
def b9{m:MSt}{i j:Int}(a:afY i j)(h:Kr (.imm (.int (i*j)))):yq (.imm (.int i)) (.imm (.int j)) m Kr:=⟨a,h⟩
def DQ{m:MSt}{k:Int}(b:0≤k)(a:k<2^20)(c:ds.length*k.toNat≤1000000)(h:Kr (.imm (.tuple (aai k.toNat ds).flatten))):yq (.imm (.tuple ds)) (.imm (.int k)) m Kr:=⟨b,a,c,h⟩
def J8{m:MSt}{k:Int}(b:0≤k)(a:k<2^20)(c:ds.length*k.toNat≤1000000)(h:Kr (.new (aai k.toNat ds).flatten)):yq (.new ds) (.imm (.int k)) m Kr:=⟨b,a,c,h⟩
end
end L2
namespace K
open PySem L2 M7
variable{l:List Nat}{h:Hall}{p:Nat×Nat}{r:Rule}{t:Nat}
inductive Mv where
 |come (o:List Nat)|done (k:Nat)|still
noncomputable def Mv.d:Mv->dL
 | .come o=>.tuple [.str "come",lnD o]
 | .done k=>.tuple [.str "done",.int (k:Int)]
 | .still=>.tuple [.str "still"]
noncomputable def Mv.Ok(h:Hall):Mv->Prop
 | .come o=>Ord h.ss.length o
 | .done k=>k<h.ss.length
 | .still=>True
inductive Wd where
 |taken|away|served|none
noncomputable def Wd.s:Wd->Str
 | .taken=> "taken" | .away=> "away" | .served=> "served" | .none=> "none"
noncomputable def Hall.rn(h:Hall)(k:Nat):Nat:=h.rs.getD k 0
noncomputable def e9(h:Hall)(l:List Nat)(k:Nat):List Nat×Wd:=if l.getD k 0=h.rn k then(l,.away)else(l.set k (l.getD k 0+1),.taken)
noncomputable def dy(l:List Nat)(k:Nat):List Nat×Wd:=if l.getD k 0=0 then(l,.none)else(l.set k (l.getD k 0-1),.served)
noncomputable def idx(l:List Nat)(x:Nat):Nat:=l.findIdx (λy=>y==x)
noncomputable def maxN(l:List Nat):Nat:=l.foldl max 0
noncomputable def dq(h:Hall)(l:List Nat):Option (Nat×Nat):=if h.mv=true/\0∈l/\2≤maxN l then some (idx l (maxN l),idx l 0)else none
noncomputable def ck(l:List Nat)(p:Nat×Nat):List Nat:=(l.set p.1 (l.getD p.1 0-1)).set p.2 ((l.set p.1 (l.getD p.1 0-1)).getD p.2 0+1)
noncomputable def cU(h:Hall):Nat->List Nat->List Nat
 |0,l=>l
 |n+1,l=>match dq h l with
  |none=>l
  |some p=>cU h n (ck l p)
noncomputable def dw(h:Hall)(l:List Nat):List Nat:=cU h (l.count 0) l
theorem jS:∀(l:List Nat) (a:Nat),a≤l.foldl max a/\(∀x∈l,x≤l.foldl max a)/\(l.foldl max a=a\/l.foldl max a∈l)
 |[],a=>⟨Ad _,(λ_ h=>by cases h),.inl rfl⟩
 | y::l,a=>by
  let⟨c,d,e⟩:=jS l _;refine⟨aak (ae8 a y) c,λx b=>?_,?_⟩
  .rcases aam.mp b with rfl|b
   .exact aak (Nat.le_max_right a x) c
   .exact d x b
  .grind
def rj:∀x∈l,x≤maxN l:=(jS l 0).2.1
theorem iC(h:l≠[]):maxN l∈l:=by
 rcases (jS l 0).2.2 with e|e
 .cases l with
  |nil=>exact(h rfl).elim
  |cons x l=>
   have:x≤maxN (x::l):=rj x Io;have a:maxN _=0:=e
   grind
 .exact e
theorem gq{x:Nat}(h:x∈l):l[idx l x]?=some x/\∀i y,i<idx l x->l[i]?=some y->y≠x:=by
 have a:idx l x<l.length:=List.findIdx_lt_length_of_exists ⟨x,h,by simp⟩;refine⟨?_,λi y b c e=>?_⟩
 .rw[iO a];have:=List.findIdx_getElem (w:=a);simp at this;exact congrArg some this
 .have:=List.not_of_lt_findIdx b
  grind
theorem ca(a b:Nat):aah (.int (a:Int)) (.int (b:Int))=decide (a=b):=by
 simp[aah]
 by_cases h:a=b
 .subst h;simp
 .have:¬_:=λz=>h (aib z)
  simp_all
def fi(l:List Nat):∀y∈natD l,Shp 0 y:=λy a=>by
 let⟨x,_,rfl⟩:=aae.mp a;exact fj _
def u7(l:List Nat)(k x:Nat):(natD l).set k (.int (x:Int))=natD (l.set k x):=by
 unfold natD;rw[List.map_set]
noncomputable def jr:SpM:=λas K=>∃(l:List Nat) (k:Nat) (d:Int) (x:Nat),as=[.imm (lnD l),.imm (.int (k:Int)),.imm (.int d)]/\k<l.length/\l.length≤1000/\(l.getD k 0:Int)+d=(x:Int)/\K (.imm (lnD (l.set k x))) []
noncomputable def lwD(p:List Nat×Wd):dL:=.tuple [lnD p.1,.str p.2.s]
noncomputable def Fv:SpM:=λas K=>∃(h:Hall) (l:List Nat) (k:Nat),as=[.imm h.d,.imm (lnD l),.imm (.int (k:Int))]/\h.Ok/\Lines h l/\k<h.ss.length/\K (.imm (lwD (e9 h l k))) []
noncomputable def Fm:SpM:=λas K=>∃(l:List Nat) (k:Nat),as=[.imm (lnD l),.imm (.int (k:Int))]/\k<l.length/\l.length≤1000/\K (.imm (lwD (dy l k))) []
noncomputable def optP:Option (Nat×Nat)->dL
 |none=>.none
 |some p=>.tuple [.int (p.1:Int),.int (p.2:Int)]
noncomputable def yr:SpM:=λas K=>∃(h:Hall) (l:List Nat),as=[.imm h.d,.imm (lnD l)]/\l≠[]/\l.length≤1000/\K (.imm (optP (dq h l))) []
noncomputable def qV:SpM:=λas K=>∃(h:Hall) (l:List Nat),as=[.imm h.d,.imm (lnD l)]/\l≠[]/\l.length≤1000/\K (.imm (lnD (dw h l))) []
theorem f9(e:dq h l=some p):h.mv=true/\l[p.1]?=some (maxN l)/\2≤maxN l/\l[p.2]?=some 0/\p.1≠p.2:=by
 unfold dq at e
 split at e
 .rename_i q;let⟨c,a,d⟩:=q;have b:l≠[]:=λz=>by rw[z]at a;cases a
  have s1:=(gq (iC b)).1;have s:=(gq a).1
  grind
 .cases e
theorem iW(e:dq h l=some p):ck l p=(l.set p.1 (maxN l-1)).set p.2 1/\p.1<l.length/\p.2<l.length/\(ck l p).count 0+1=l.count 0/\(ck l p).length=l.length:=by
 let⟨h0,b,o,a,i⟩:=f9 e;have g:=(DL.mp b).1;have f:=(DL.mp a).1;have k:l.getD p.1 0=maxN l:=bh b;have j:(l.set p.1 (maxN l-1)).getD p.2 0=0:=bh (by rw[aaC i];exact a);have d:ck l p=(l.set p.1 (maxN l-1)).set p.2 1:=by unfold ck;rw[k,j]
 have n:=by rw[iO g]at b;exact aal b
 have m:l[p.2]=0:=by rw[iO f]at a;exact aal a
 refine⟨d,g,f,?_,by rw[d,abj,abj]⟩;have u:0<l.count 0:=List.count_pos_iff.mpr (oR a);have c:p.2<(l.set p.1 (maxN l-1)).length:=by rw[abj];exact f
 have v:(l.set p.1 (maxN l-1))[p.2]=0:=by rw[adP i];exact m
 rw[d,List.count_set c,List.count_set g,v,n];have s:(maxN l==0)=false:=by simp;omega
 have q:(maxN l-1==0)=false:=by simp;omega
 simp_all
theorem js(e:dq h l=none):∀n,cU h n l=l
 |0=>rfl
 |n+1=>by simp[cU,e]
noncomputable def qM(h:Hall)(r:Rule)(t:Nat):Nat:=match r with
 | .turns=>(t+1)%h.ss.length
 |_=>t
noncomputable def yt:SpM:=λas K=>∃(h:Hall) (r:Rule) (t:Nat),as=[.imm h.d,.imm r.d,.imm (.int (t:Int))]/\h.Ok/\K (.imm (.int (qM h r t:Nat))) []
noncomputable def AU(h:Hall)(r:Rule)(l:List Nat)(t:Nat):Mv->dL
 | .come o=>.int (sent h r l t o:Nat)
 | .done k=>.int (k:Int)
 | .still=>.none
noncomputable def u8:SpM:=λas K=>∃(h:Hall) (r:Rule) (l:List Nat) (t:Nat) (mv:Mv),as=[.imm h.d,.imm r.d,.imm (stD l t),.imm mv.d]/\h.Ok/\r.Ok h/\Lines h l/\mv.Ok h/\K (.imm (AU h r l t mv)) []
noncomputable def cK(h:Hall)(r:Rule)(l:List Nat)(t:Nat):Mv->List Nat×Nat×Wd
 | .come o=>(dw h (e9 h l (sent h r l t o)).1,qM h r t,(e9 h l (sent h r l t o)).2)
 | .done k=>(dw h (dy l k).1,t,(dy l k).2)
 | .still=>(dw h l,t,.none)
noncomputable def mvD(p:List Nat×Nat×Wd):dL:=.tuple [stD p.1 p.2.1,.str p.2.2.s]
noncomputable def zG:SpM:=λas K=>∃(h:Hall) (r:Rule) (l:List Nat) (t:Nat) (mv:Mv),as=[.imm h.d,.imm r.d,.imm (stD l t),.imm mv.d]/\h.Ok/\r.Ok h/\Lines h l/\mv.Ok h/\(r = .turns->t<h.ss.length)/\K (.imm (mvD (cK h r l t mv))) []
theorem sX{o:List Nat}(ho:h.Ok)(hr:r.Ok h)(c:Lines h l)(a:Ord h.ss.length o)(e:r = .turns->t<h.ss.length):sent h r l t o<h.ss.length:=by
 cases r with
 |random=>let⟨k,f,rfl,h0⟩:=a.cons;exact h0
 |turns=>exact e rfl
 |two=>exact f8 a 2
 |least=>have:=f8 (lt:=br l) a o.length;rw[Ld]at this;exact this
 |quick=>have:=f8 (lt:=bO h l) a o.length;rw[Ld]at this;exact this
 |told d=>
  have b:placeF 0 h.rs l<d.length:=by rw[hr.1,allR_cnt];exact place_lt c.fits
  exact hr.2 _ (oR (getN rfl b))
theorem Lines.set{k x:Nat}(a:Lines h l)(f:∀s,h.ss[k]?=some s->x≤s.r):Lines h (l.set k x):=by
 refine⟨by rw[abj];exact a.1,λi s y e c=>?_⟩
 by_cases b:k=i
 .subst b;have d:k<l.length:=by rw[a.1];exact(DL.mp e).1
  simp_all
 .rw[aaC b]at c;exact a.2 i s y e c
def Lines.at{k:Nat}(a:Lines h l)(b:k<h.ss.length):∃s,h.ss[k]?=some s/\l.getD k 0≤s.r/\h.rn k=s.r/\s∈h.ss:=by
 let⟨s,e,c,eb,hs⟩:=h.srv b;exact⟨s,e,a.2 k s _ e (getN a.1 b),bh (Hall.rs_get e),hs⟩
theorem vv{k:Nat}(a:Lines h l)(c:k<h.ss.length):Lines h (e9 h l k).1:=by
 let⟨s,e,b,d,hs⟩:=a.at c;unfold e9;split
 .omega
 .refine a.set λg f=>?_
  grind
theorem vC{k:Nat}(a:Lines h l)(c:k<h.ss.length):Lines h (dy l k).1:=by
 let⟨s,e,b,d,hs⟩:=a.at c;unfold dy;split
 .omega
 .refine a.set λg f=>?_
  grind
theorem ie{h:Hall}(ho:h.Ok):∀(n:Nat) (l:List Nat),Lines h l->Lines h (cU h n l)
 |0,l,hL=>hL
 | n+1,l,hL=>by
  simp[cU]
  cases e:dq h l with
  |none=>exact hL
  |some p=>
   let⟨c,j,f,d,b⟩:=iW e;let⟨m,m1,m2,g,i⟩:=f9 e;refine ie ho n _ ?_;rw[c];refine(hL.set λs a=>?_).set λs a=>(ho.ok s (oR a)).r1;have:=hL.2 p.1 s _ a m1;omega
def fY(ho:h.Ok)(a:Lines h l):Lines h (dw h l):=ie ho _ _ a
structure St(h:Hall)(r:Rule)(l:List Nat)(t:Nat):Prop where
 ln:Lines h l
 tn:r = .turns->t<h.ss.length
 ts:t<4
theorem CC(ho:h.Ok)(hs:t<4)(a:r = .turns->t<h.ss.length):(r = .turns->qM h r t<h.ss.length)/\qM h r t<4:=by
 have n1:=ho.n1;have n4:=ho.n4
 cases r with
 |turns=>
  have:=ahr (t+1) (show h.ss.length>0 by assumption);exact⟨λ_=>this,by show(t+1)%h.ss.length<4;exact aan ‹_› ‹_›⟩
 |_=>exact⟨(λz=>by cases z),hs⟩
theorem nH(ho:h.Ok)(hr:r.Ok h)(S:St h r l t){mv:Mv}(a:mv.Ok h):St h r (cK h r l t mv).1 (cK h r l t mv).2.1:=by
 cases mv with
 |come o=>
  have:=CC ho S.ts S.tn;exact⟨fY ho (vv S.ln (sX ho hr S.ln a S.tn)),this.1,this.2⟩
 |done k=>exact⟨fY ho (vC S.ln a),S.tn,S.ts⟩
 |still=>exact⟨fY ho S.ln,S.tn,S.ts⟩
noncomputable def zer(h:Hall):List Nat:=aai h.ss.length 0
def mj(ho:h.Ok)(r:Rule):St h r (zer h) 0:=by
 refine⟨⟨by simp[zer],λi s x a e=>?_⟩,λ_=>ho.n1,by decide⟩;have:=by
  have:=oR e;exact(List.mem_replicate.mp this).2
 omega
noncomputable def zq:SpM:=λas K=>∃h:Hall,as=[.imm h.d]/\h.Ok/\K (.imm (stD (zer h) 0)) []
noncomputable def TapeD(c:Nat)(ds:List dL):Prop:=∃(n:List Int) (p q:Int),ds=[.list (n.map .int),.int p,.int q]/\n.length≤63/\0≤p/\p≤c/\0≤q
theorem TapeD.mono{c a:Nat}{ds:List dL}(h:TapeD c ds)(i:c≤a):TapeD a ds:=by
 let⟨n,p,q,e,d,b,g,f⟩:=h;exact⟨n,p,q,e,d,b,by omega,f⟩
noncomputable def DI:SpM:=λas K=>∃n:List Int,as=[.imm (.list (n.map .int))]/\n.length≤63/\∀ds,TapeD 0 ds->K (.new ds) []
noncomputable def kM:SpM:=λas K=>∃(ds:List dL) (m:Int) (c:Nat),as=[.own ds,.imm (.int m)]/\TapeD c ds/\c<1000000000/\0<m/\m<1099511627776/\∀(r:Int) (d:List dL),0≤r->r<m->TapeD (c+1) d->K (.imm (.int r)) [d]
noncomputable def GN:SpM:=λas K=>∃a b:Nat,as=[.imm (.int a),.imm (.int b)]/\K (.imm (.int (a.gcd b:Nat))) []
noncomputable def Fj(m:List (List Nat)):Prop:=m≠[]/\m.length≤1000/\∀rs∈m,1≤rs.length/\rs.length≤4/\∀r∈rs,1≤r/\r≤6
noncomputable def oH:SpM:=λas K=>∃(h:Hall) (l:List Nat),as=[.imm h.d,.imm (lnD l)]/\l≠[]/\l.length≤1000/\K (.imm (lnD (dw h l))) []
theorem sumZ:∀l:List Nat,(l.map λ(x:Nat)=>(x:Int)).sum=((l.sum:Nat):Int)
 |[]=>rfl
 |x::l=>by rw[aar,aco,aco,sumZ l,ab0]
theorem E9:∀{l:List Nat}{N:Nat},(∀x∈l,x≤N)->l.sum≤N*l.length
 |[],N,_=>act _
 |x::l,N,h=>by
  have c:=h x Io;have b:=E9 λy a=>h y (Ge _ a);rw[aco,aaG,Nat.mul_succ];omega
theorem xK:∀{l:List Nat}{x:Nat},x∈l->x≤l.sum
 |y::l,x,h=>by
  rw[aco];obtain rfl|h:=aam.mp h
  .simp
  .have:=xK h;omega
def zM(l:List Nat):du (natD l)=some (l.map λ(x:Nat)=>(x:Int)):=by
 have:=fo (l.map λ(x:Nat)=>x);rwa[abc]at this
noncomputable def cutN(b:Nat)(p:Nat):Nat×Nat:=(p/p.gcd b,b/p.gcd b)
theorem oA{b p:Nat}(d:1≤p)(f:p<1000000)(a:1≤b)(k:b<1000000):1≤(cutN b p).1/\(cutN b p).1<1000000/\1≤(cutN b p).2/\(cutN b p).2<1000000:=by
 have g:0<p.gcd b:=abC _ a;have e:p.gcd b≤b:=af5 _ a;have c:p.gcd b≤p:=Nat.gcd_le_left _ d;have j:=adp p (p.gcd b);have i:=adp b (p.gcd b);exact⟨agQ c g,by show p/p.gcd b<1000000;exact aao ‹_› ‹_›,agQ e g,by show b/p.gcd b<1000000;exact aao ‹_› ‹_›⟩
def ut{a:Type}(n:Nat)(x:a):(aai n [x]).flatten=aai n x:=by simp
def BR(n x:Nat):aai n (abi (x:Int))=natD (aai n x):=by unfold natD;rw[afy]
noncomputable def MD(p:Nat×Nat)(r:Nat):Srv:=⟨p.1,p.2,r⟩
def AL{r:Nat}(h:1≤p.1/\p.1<1000000/\1≤p.2/\p.2<1000000)(hr:1≤r/\r≤6):(MD p r).Ok:=⟨h.1,h.2.1,h.2.2.1,h.2.2.2,hr.1,hr.2⟩
end K
namespace L2
open PySem PySem.Spec PyProof.Rows
variable{x:Str}
section
variable {X:Cx}{a:Expr}{es:List Expr}{w:WA}{pos p b c:Pos}
noncomputable def Qt(K:LD):List V->Hp->VK->Prop:=λd H Q=>∃(t:Bool) (l:Addr) (n:List Int),d=[.ref l]/\SqB t K H l (n.map V.int)/\Q (.int n.sum) H
theorem kh(ns:List Int):∀n,n≤ns.length->preSum (λi=>ns.getD i 0) n=(ns.take n).sum
 |0,_=>by simp[preSum]
 |n+1,h=>by
  show preSum _ n+ns.getD n 0=_;have d:=by omega
  rw[kh ns n (by exact aaN ‹_›),aaQ,iO d,bh (iO d),ad3];simp
theorem o9(C:X.calm=true):di X (.builtin "sum") (Qt X.K):=by
 intro j s J H K G Q I E ⟨t,l,n,ex,D,q⟩;subst ex;let⟨u,rfl,y⟩:=E.one;cases y;let⟨d,r,z,_⟩:=I.sqb D;have k:=jj r;have o:d.length=n.length:=by have:=r.length;grind
 refine call_sum_walkG (nQ z λs2 e st f g=>?_);subst e;refine⟨s.heap.objs.size,[s.heap.objs.size,l],[s.heap.objs.size],d.toArray.size,λi v=>d.toArray[i]?=some v,λi h=>SubI t h s.heap.objs.size l i/\SubS t h l d.toArray,λi=>n.getD i 0,rfl,jQ (A:=X.A.in1) t (I.ok.hd C) _ l g d.toArray,st,f,ku k,λF B t' m=>?_⟩;have e:preSum (λi=>n.getD i 0) d.toArray.size=n.sum:=by
  rw[aav,o,kh n n.length (Ad _),Ld]
 rw[e];exact⟨.int n.sum,H,I.kept (t':=B) (nK m),⟨_,rfl⟩,q⟩
noncomputable def Me:WC:=λrs m K=>on1 (λr=>∃ds n,sqOf m r=some ds/\du ds=some n/\K (.imm (.int n.sum))) rs
theorem v7(i:X.calm=true):di X (.builtin "sum") (cM X.kx Me):=by
 intro d s e H B u Q I j ⟨z,m,A,t,rs,K,R,h,ho,fin⟩;let⟨r,v,rfl,rfl,l,ds,n,o,q,ho⟩:=dH h ho;let⟨a,y,rfl,f,g⟩:=l.seq R o;rw[i9 q]at g;have k:=fe g;subst k;have go:=fin _ _ H ho R (dB _) (Frm.refl _ _);rcases f with f|f
 .exact o9 i d s e H _ u Q I j ⟨false,a,n,rfl,f,go⟩
 .exact o9 i d s e H _ u Q I j ⟨true,a,n,rfl,f,go⟩
def NK{m:MSt}{r:R}{K:R->Prop}{ds:List dL}{ns:List Int}(d:sqOf m r=some ds)(e:du ds=some ns)(h:K (.imm (.int ns.sum))):Me [r] m K:=⟨ds,ns,d,e,h⟩
theorem gG{K:Kd}{H:Hp}:∀ns:List Int,DenAll K H (ns.map .int) (ns.map V.int)
 |[]=>by simp[ DenAll]
 |n::ns=>by
  exact⟨.int n,_,rfl,by simp[Den],gG ns⟩
end
section
variable {X:Cx}{a:Expr}{es:List Expr}{w:WA}{pos p b c:Pos}
def q9:abb "sorted" = some (.builtin "sorted"):=by rfl
end
structure ConM(K:LD)(mg:Str->Option lD)(x:Str)(d:dL):Prop where
 ex:∃(v:V) (u:lD),mg x=some u/\RelV v u/\∀(w:World) (H:Hp),Den ⟨K,w⟩ H d v
structure ConK(K:LD)(x:Str)(d:dL):Prop where
 ex:∃(v:V) (u:lD),abl K aaK x=some (some u)/\RelV v u/\∀(w:World) (H:Hp),Den ⟨K,w⟩ H d v
def ConK.m{K:LD}{mg:Str->Option lD}{h:aaX}{d:dL}(D:ConK K x d)(X:K.In h)(G:h.Ns aaK mg):ConM K mg x d:=by
 let⟨v,u,a,r,q⟩:=D.ex;exact⟨v,u,ahh X G a,r,q⟩
section
variable {X:Cx}{a b o e:Expr}{es:List Expr}{w g:WE}{h:WA}{c f pos p:Pos}{tg:Expr}
theorem Lg{d:dL}(C:ConM X.K X.mg x d)(k:Gl X x)(hd:(x==("__debug__" : Str))=false:=by decide):ME X (.Name x pos) (wC d):=by
 let⟨v,u,i,r,q⟩:=C.ex;exact IK (Jt k i r hd) λn m l H K Q R j fin=>fin _ m v H j rfl R (q _ _) (Frm.refl _ _)
theorem FW{d:dL}(C:ConM X.K X.mg x d)(i:Gl X x)(hd:(x==("__debug__" : Str))=false:=by decide):EE X (.Name x pos) (wC d):=⟨Lg C i hd⟩
end
end L2
namespace L2
open PySem PySem.Spec PyProof.Rows
noncomputable def intV:lD->Option Int
 | .int z _=>some z
 |_=>none
theorem l9:∀{i:List lD}{a:List Int},i.map intV=a.map some->Vals (a.map V.int) i
 |[],[],_=>.nil
 |[],_::_,h=>by cases h
 |_::_,[],h=>by cases h
 |u::i,z::a,h=>by
  let⟨b,c⟩:=List.cons.inj h;refine .cons ?_ (l9 c)
  cases u<;>first|(cases b;exact⟨_,rfl⟩)|cases b
def ConK.ints{K:LD}{x:Str}{p:Addr}{b:Array lD}{n:Nat}{s:Array (Option lD)}{z:List Int}(a:abl K aaK x=some (some (.ref p)))(l:K.lookup p=some ⟨.type "tuple",none,.seq b n,s⟩)(i:b.toList.map intV=z.map some)(h:b.size≤1000):ConK K x (.tuple (z.map .int)):=by
 refine⟨.ref p,_,a,rfl,λ_ H=>?_⟩;exact cR (.inr ⟨_,b,n,l,rfl,rfl,rfl,by rw[aag];omega,l9 i⟩) (gG z)
end L2
namespace L2
open PySem PySem.Spec PySem.W PyProof.Rows
section
variable {X:Cx}
theorem oj{K:Kd}{H:Hp}{ds:List dL}{xs:List V}(g:DenAll K H ds xs):∀p:List Nat,DenAll K H (p.map λi=>ds.getD i .none) (p.map λi=>xs.getD i .non)
 |[]=>by simp only[adI,DenAll]
 | i::p=>by
  simp only[aar];refine⟨_,_,rfl,?_,oj g p⟩
  cases e:ds[i]? with
  |some d=>
   let⟨v,a,hd⟩:=g.get e;rw[bh e,bh a];exact hd
  |none=>
   have a:xs[i]?=none:=by rw[List.getElem?_eq_none_iff]at e⊢;rw[<-g.length];exact e
   rw[Mt,Mt,e,a];rfl
theorem jP{xs:List V}{a:List lD}(r:Vals xs a):∀p:List Nat,Vals (p.map λi=>xs.getD i .non) (p.map λi=>a.getD i .none)
 |[]=>.nil
 | i::p=>by
  rw[aar,aar];refine .cons ?_ (jP r p)
  cases e:xs[i]? with
  |some x=>
   let⟨u,b,h⟩:=r.get e;rw[bh e,bh b];exact h
  |none=>
   rw[Mt,Mt,e,r.none_of e];rfl
end
end L2
namespace K
open PySem L2 M7
noncomputable def gL(n:Nat)(os:List (List Nat)):List (List Nat):=os.flatMap λa=>((aaw n).filter λl=>!a.contains l).map λl=>a++[l]
noncomputable def ordK(n:Nat):Nat->List (List Nat)
 |0=>[[]]
 |k+1=>gL n (ordK n k)
def lM{n:Nat}{os:List (List Nat)}{j:Nat}{a:List Nat}(h:os[j]?=some a):gL n (os.take (j+1))=gL n (os.take j)++((aaw n).filter λl=>!a.contains l).map λl=>a++[l]:=by
 unfold gL;rw[aaQ,h];simp
def cn:∀n≤4,∀k≤4,(ordK n k).length≤24/\∀a∈ordK n k,a.length≤4/\∀x∈a,x≤3:=by decide +kernel
def gw:∀n≤4,∀k≤3,∀j≤24,(gL n ((ordK n k).take j)).length≤24:=by decide +kernel
end K
namespace L2
open PySem PySem.Spec PyProof.Rows
variable{v y:V}{u:lD}{P:aaD}{w:World}{H H':Hp}{kvs:List (dL×dL)}{xs:List (List Key×Addr×lD)}{a:Addr}{Q:lD->mT->Prop}{τ:List (List Nat×Addr)}{p ρ:List Nat}{kk:Key}{es vs:List (Key×V)}{t:dL}{K:Kd}{α:Al}{m2:MSt}{σ:St}
section
variable {a:Type} [DecidableEq a]
noncomputable def valV(kvs:List (a×V))(k:a):Option V:=(kvs.find? λb=>decide (b.1=k)).map (·.2)
noncomputable def putK(kvs:List (a×V))(k:a)(v:V):List (a×V):=
 if (kvs.any λb=>decide (b.1=k))=true then kvs.map (λb=>if b.1=k then(b.1,v)else b)else kvs++[(k,v)]
theorem jM{p:a×V}{r:List (a×V)}{k:a}(e:p.1=k):valV (p::r) k=some p.2:=by simp[valV,e]
theorem jH{p:a×V}{r:List (a×V)}{k:a}(e:¬p.1=k):valV (p::r) k=valV r k:=by simp[valV,e]
theorem uj(k:a):∀kvs:List (a×V),(kvs.any λb=>decide (b.1=k))=(valV kvs k).isSome
 |[]=>rfl
 |p::r=>by
  rw[afR]
  by_cases e:p.1=k
  .simp[jM e,decide_eq_true e]
  .rw[jH e,decide_eq_false e];exact uj k r
theorem kJ(kvs:List (a×V))(k:a)(v:V):(putK kvs k v).length≤kvs.length+1:=by
 unfold putK
 grind
theorem RelO.isSome_eq{o:Option V}{u:Option lD}(r:RelO o u):o.isSome=u.isSome:=by
 cases o with
 |none=>cases u with
  |none=>rfl
  |some _=>exact(r).elim
 |some _=>cases u with
  |none=>exact(r).elim
  |some _=>rfl
theorem KV.val{kvs:List (a×V)}{vs:List (a×lD)}(r:KV kvs vs)(k:a):RelO (valV kvs k) (afj vs k):=by
 induction r with
 |nil=>exact ahs
 | @cons p q ps qs h t ih=>
  let⟨c,d⟩:=h
  by_cases e:p.1=k
  .have e':=c.symm.trans e;have b:afj (q::qs) k=some q.2:=by simp[afj,e']
   rw[jM e,b];exact d
  .have e':¬q.1=k:=λz=>e (c.trans z);have b:afj (q::qs) k=afj qs k:=by simp[afj,e']
   rw[jH e,b];exact ih
theorem KV.any{kvs:List (a×V)}{vs:List (a×lD)}(r:KV kvs vs)(k:a):(kvs.any λb=>decide (b.1=k))=vs.any λb=>decide (b.1=k):=by
 induction r with
 |nil=>rfl
 |cons h t i=>rw[afR,afR,i,h.1]
theorem KV.repl{kvs:List (a×V)}{vs:List (a×lD)}(r:KV kvs vs)(k:a)(f:RelV y u) :
  KV (kvs.map λb=>if b.1=k then(b.1,y)else b) (vs.map λb=>if b.1=k then(b.1,u)else b):=by
 induction r with
 |nil=>exact .nil
 | @cons p q ps qs h t ih=>
  rw[aar,aar];refine .cons ?_ ih;let⟨c,d⟩:=h
  by_cases e:p.1=k
  .rw[if_pos e,if_pos (c.symm.trans e)];exact⟨c,f⟩
  .rw[if_neg e,if_neg (λz=>e (c.trans z))];exact⟨c,d⟩
theorem KV.put{kvs:List (a×V)}{vs:List (a×lD)}(r:KV kvs vs)(k:a)(b:RelV y u):KV (putK kvs k y) (stored vs k u):=by
 unfold putK stored;rw[r.any k]
 by_cases e:(vs.any λc=>decide (c.1=k))=true
 .rw[if_pos e,if_pos e];exact r.repl k b
 .rw[if_neg e,if_neg e];exact Paired.snoc r ⟨rfl,b⟩
theorem KV.length{kvs:List (a×V)}{vs:List (a×lD)}(r:KV kvs vs):kvs.length=vs.length:=ahe r
end
theorem BH{k:Key}(r:RelV (kV k) u):(cj P w).is k u=true:=by
 cases k with
 |inl i=>let⟨t,e⟩:=(r);subst e;exact rH P w i t
 |inr x=>let⟨t,e⟩:=(r);subst e;exact sw P w x t
theorem pi{P:aaD}{w:World}:∀{b:List Key}{c:List lD},Vals (b.map kV) c->ItemsAre (cj P w) b c
 |[],_,r=>by rw[adI]at r;cases r;exact .nil
 |k::b,_,r=>by
  cases r with
  |cons h t=>exact .cons (BH h) (pi t)
noncomputable abbrev KT(H:Hp):List (List Key×V)->List (List Key×Addr×lD)->Prop:=abJ λp q=>p.1=q.1/\H q.2.1=some (.tup (p.1.map kV))/\RelV p.2 q.2.2
theorem KT.val{kvs:List (List Key×V)}(r:KT H kvs xs)(k:List Key):RelO (valV kvs k) ((atKey xs k).map (·.2)):=by
 induction r with
 |nil=>exact ahs
 | @cons p q ps qs h t ih=>
  let⟨c,_,d⟩:=h
  by_cases e:p.1=k
  .have e':=c.symm.trans e;have b:atKey (q::qs) k=some q.2:=by simp[atKey,e']
   rw[jM e,b];exact d
  .have e':¬q.1=k:=λz=>e (c.trans z);have b:atKey (q::qs) k=atKey qs k:=by simp[atKey,e']
   rw[jH e,b];exact ih
theorem KT.repl{kvs:List (List Key×V)}(r:KT H kvs xs)(k:List Key)(g:RelV y u) :
  KT H (kvs.map λc=>if c.1=k then(c.1,y)else c) (xs.map (putAt k u)):=by
 induction r with
 |nil=>exact .nil
 | @cons p q ps qs h t ih=>
  rw[aar];refine .cons ?_ ih;let⟨b,d,f⟩:=h;unfold putAt
  by_cases e:p.1=k
  .rw[if_pos e,if_pos (b.symm.trans e)];exact⟨b,d,g⟩
  .rw[if_neg e,if_neg (λz=>e (b.trans z))];exact⟨b,d,f⟩
def KT.put{kvs:List (List Key×V)}(r:KT H kvs xs)(k:List Key){b:Addr}(hb:H b=some (.tup (k.map kV)))(c:RelV y u) :
  KT H (putK kvs k y) (storedH xs k b u):=by
 have e:(kvs.any λd=>decide (d.1=k))=(atKey xs k).isSome:=by
  rw[uj,(r.val k).isSome_eq,Option.isSome_map]
 unfold putK storedH;rw[e]
 by_cases q:(atKey xs k).isSome=true
 .rw[if_pos q,if_pos q];exact r.repl k c
 .rw[if_neg q,if_neg q];exact Paired.snoc r ⟨rfl,hb,c⟩
def KT.keeps{kvs:List (List Key×V)}(r:KT H kvs xs)(h:∀b ys,H b=some (.tup ys)->H' b=some (.tup ys)):KT H' kvs xs:=
 Paired.mapP r λ_ _ z=>⟨z.1,h _ _ z.2.1,z.2.2⟩
section
variable {P:aaD}{w:World}{H:Hp}{h:aaX}{a:Addr}
def KL{u:HO}(ok:HOk P w H h)(e:Rd H a u):ObjOk P w H h a u:=e.ok ok
def vM{kvs:List (Key×V)}(ok:HOk P w H h)(e:Rd H a (.dK kvs)):kvs.length≤aad/\(a==abv)=false/\∃vs,KV kvs vs/\h.DictOf (cj P w) a vs:=
 KL ok e
def Sn{kvs:List (Key×V)}(ok:HOk P w H h)(e:H a=some (.dK kvs)):kvs.length≤aad/\(a==abv)=false/\∃vs,KV kvs vs/\h.DictOf (cj P w) a vs:=vM ok (.inl e)
def yT{k:List Key}(ok:HOk P w H h)(e:H a=some (.tup (k.map kV))):(agZ (cj P w)).is h k a:=by
 let⟨_,i,r,o,c,b,hd,n,d⟩:=(ok a _ e);exact⟨o,i.toArray,n,c,b,d,by simpa using pi r⟩
theorem OH{kvs:List (List Key×V)}(ok:HOk P w H h)(e:Rd H a (.dT kvs)):kvs.length≤aad/\(a==abv)=false/\
  ∃xs,KT H kvs xs/\h.DictOfH (agZ (cj P w)) a xs:=by
 let⟨z,y,xs,r,o,es,g,d,c,f,j,i⟩:=(KL ok e);refine⟨z,y,xs,r,o,es,g,d,c,f,j,λx b=>?_,i⟩;have all:∀{l:List _}{m:List _},KT H l m->∀x∈m,(agZ (cj P w)).is h x.1 x.2.1:=by
  intro l m q
  induction q with
  |nil=>intro x b;exact nomatch b
  | @cons p q ps qs hq t ih=>
   intro x b;rcases aam.mp b with e|b
   .subst e;exact yT ok (by simp_all)
   .exact ih x b
 exact all r x b
def QW{kvs:List (List Key×V)}(ok:HOk P w H h)(e:H a=some (.dT kvs)):kvs.length≤aad/\(a==abv)=false/\
  ∃xs,KT H kvs xs/\h.DictOfH (agZ (cj P w)) a xs:=OH ok (.inl e)
end
noncomputable def DGet(H:Hp)(a:Addr)(y:V)(r:Option V):Prop:=
 (∃kvs k,Rd H a (.dK kvs)/\y=kV k/\r=valV kvs k)\/∃kvs k b,Rd H a (.dT kvs)/\y = .ref b/\H b=some (.tup (k.map kV))/\r=valV kvs k
noncomputable def DPut(H:Hp)(a:Addr)(y v:V)(H':Hp):Prop:=
 (∃kvs k,H a=some (.dK kvs)/\y=kV k/\kvs.length<aad/\H'=upd H a (.dK (putK kvs k v))) \/
 ∃kvs k b,H a=some (.dT kvs)/\y = .ref b/\H b=some (.tup (k.map kV))/\kvs.length<aad/\H'=upd H a (.dT (putK kvs k v))
theorem DPut.k{kvs:List (Key×V)}{k:Key}(e:H a=some (.dK kvs))(h:kvs.length<aad):DPut H a (kV k) v (upd H a (.dK (putK kvs k v))):=.inl ⟨kvs,k,e,rfl,h,rfl⟩
section
variable {X:Cx}{d:List (Addr×Obj)}{f:St}{H:Hp}{s:mT}{a:Addr}{y v:V}{u r:lD}{o:Option V}{A:aa6}{E:lD->mT->Prop}
def Inv.big(I:Inv X d f H s):abv<s.heap.objs.size:=by
 have h:=(I.mod.glob.keeps I.bk).lt;exact aaA (by decide) h
theorem xR(C:A.units+1<cLine)(I:Inv X d f H s)(g:DGet H a y (some v))(B:RelV y u)(h:∀j s',Inv X d f H s'->RelV v j->Q j s') :
  wpAny (model X.prog X.w) A (aeO (.ref a) u) Q E s:=by
 rcases g with⟨kvs,k,e,m,l⟩|⟨kvs,k,b,e,m,eb,l⟩
 .subst m;let⟨z,hd,vs,i,q⟩:=vM I.hok e;let⟨j,x,c⟩:=RelO.some_of (v:=v) (o:=afj vs k) (by rw[l];exact i.val k);exact wpAny_getItem_of (BH B) q.mapOf x (h j _ (I.tok _) c)
 .subst m
  cases (show u=adq b from B)
  let⟨z,hd,xs,i,q⟩:=OH I.hok e;let⟨j,x,c⟩:=RelO.some_of (v:=v) (o:=(atKey xs k).map (·.2)) (by rw[l];exact i.val k);let⟨p,hp,n⟩:=adl.mp x;refine wpAny_getItem_heap (tupleKind_room_in1 C) (yT I.hok eb) q hp ?_;rw[n];exact h j _ (I.tok _) c
def ud{h':aaX}{t':Nat}{c:HO}(I:Inv X d f H s)(m:Mut (H a))(hs:abk a s.heap h')(h:∃q,h'.get? a=some q)(new:ObjOk X.prog X.w (upd H a c) h' a c) :
  Inv X d f (upd H a c) {s with heap:=h',toks:=t' }:=
 I.write m (.inl rfl) (λb q hb z=>(hs.2 b hb).trans z) h new
def MH{h':aaX}{kvs:List (Key×V)}{vs:List (Key×lD)}(z:kvs.length≤aad)(hd:(a==abv)=false)(b:KV kvs vs)(c:h'.DictOf (cj P w) a vs) :
  ObjOk P w H' h' a (.dK kvs):=⟨z,hd,vs,b,c⟩
theorem yY{Q:Unit->mT->Prop}(O:A.units+1<cLine)(I:Inv X d f H s)(g:DPut H a y v H')(J:RelV y u)(L:RelV v r)(h:∀s',Inv X d f H' s'->Q () s') :
  wpAny (model X.prog X.w) A (ahx (.ref a) u r) Q E s:=by
 rcases g with⟨kvs,k,e,n,l,D⟩|⟨kvs,k,b,e,n,eb,l,D⟩
 .subst n D;let⟨z,hd,vs,i,C⟩:=Sn I.hok e;have B:vs.length≤aad:=by rw[<-i.length];exact z
  have x:(putK kvs k v).length≤aad:=by have:=kJ kvs k v;exact aak ‹_› ‹_›
  refine wpAny_setItem_pairs (hsz:=B) (BH J) C λG j hs=>h _ ?_;have T:∃q,G.get? a=some q:=let ⟨q,_,_,m,_⟩:=j;⟨q,m⟩;exact ud I (by rw[e];exact ahs) hs T (MH x hd (i.put k L) j)
 .subst n D;cases (J);let⟨z,hd,xs,i,C⟩:=QW I.hok e;have B:xs.length≤aad:=by rw[<-ahe i];exact z
  have x:(putK kvs k v).length≤aad:=by have:=kJ kvs k v;exact aak ‹_› ‹_›
  refine wpAny_setItem_heap (hsz:=B) (tupleKind_room_in1 O) (yT I.hok eb) C λG j hs=>h _ ?_;let⟨q,es,N,m,M,R,U,_,S⟩:=j;refine ud I (by rw[e];exact ahs) hs ⟨q,m⟩ ⟨x,hd,_,(i.put k eb L).keeps λc V F=>?_,q,es,N,m,M,R,U,S⟩;rw[au (sU F e (λz=>nomatch z))];exact F
end
noncomputable def NoSl(i:Expr):Prop:=∀o b,agJ i false o b=operate [o,b] (aeO o b)
theorem GA{prog:aaD}{A:aa6}{E:lD->mT->Prop}{s:mT}{env:Env}{c b:Expr}{pos:Pos}{T id:String}
  (m:ahn (.type T) "__getitem__" = pure (some (.builtin id))) (hs:NoSl b)
  (h:wpAny (model prog w) A (eval c env) (λo f=>wpAny (model prog w) A (eval b env) (λi d=>d.TypeIs o T/\wpAny (model prog w) A (aeO o i) Q E d) E f) E s) :
  wpAny (model prog w) A (eval (.Subscript c b pos) env) Q E s:=by
 refine Subscript_ (acy h (λo f k=>acy k (λi d e=>?_) λ_ _ x=>x) λ_ _ x=>x);let⟨l,e⟩:=e;unfold subscriptTail;refine aD ?_;rw[getitemInPython_of_ne l.not_modules];refine aD (ad4 l m ?_);have fin:wpAny (model prog w) A (agJ b false o i) (λr g=>wpAny (model prog w) A (letTemporaryGo c o r >>= λ_=>pure r) Q E g) E d:=by
  rw[hs o i];exact wpAny_operating (acy e (λr g j=>aD (wpAny_letTemporaryGo (Dl j))) λ_ _ x=>x)
 first
  |exact Dl (aD fin)
  |exact aD (Dl (aD fin))
  |exact aD fin
noncomputable def Sj(e ty g:TE):TS:=λD σ H=>g σ H λv d=>e σ d λx f=>ty σ f λy c=>∃a b,x = .ref a/\DPut c a y v b/\D.nx σ b
section
variable {X:Cx}{o i e b:Expr}{pos p t:Pos}{c ty d:TE}
theorem GG(k:X.A.units+1<cLine)(ho:PE X o c)(hi:PE X i ty)(j:PE X b d)(hs:abQ b (some (.Subscript o i p)) pos.line X.env=pure false) :
  PS X (.Assign [.Subscript o i p] b pos) (Sj c ty d):=by
 intro f s σ H D I h;refine ago (thn (j f s σ H _ I h) λr s1 ⟨v,E,L,z,q⟩=>thn (ho f s1 σ E _ L q) λu s2 ⟨x,F,A,B,J⟩=>thn (hi f s2 σ F _ A J) λO R ⟨y,M,l,m,a,n,ex,g,C⟩=>?_) hs;subst ex;obtain rfl:u=adq a:=B;exact yY k l g m z λN G=>⟨σ,n,G,C⟩
end
def uo(h:aaX)(hb:abv<h.objs.size):ObjOk P w H (h.push {cls:=.type "dict",data:=.dict #[]}) h.objs.size (.dK []):=
 ⟨act _,beq_eq_false_iff_ne.mpr (abf (aaS hb)),[],.nil,aaX.DictOf.new h⟩
noncomputable def Qg:TE:=λ_ H Q=>∀p,H p=none->Q (.ref p) (upd H p (.dK []))
section
variable {X:Cx}{pos:Pos}
theorem pe_dnewK:PE X (.Dict [] [] pos) Qg:=λb s σ H Q I h=>
 wpAny_Dict_empty ⟨.ref s.heap.objs.size,_,I.laid (t':=s.toks) (λ_ _ q=>AD _ q) (Ad _) (uo s.heap I.big),rfl,h _ (I.hok.fresh (Ad _))⟩
end
section
variable {K:Kd}{H H':Hp}{τ:List (List Nat×Addr)}
mutual
theorem TAt.monoP(f:Pers H H'):∀{d:dL}{p:List Nat}{v:V},(∀q a,τ.lookup (p++q)=some a->H' a=H a)->TAt K H τ p d v->TAt K H' τ p d v
 | .none,_,_,_,h=>by simp only[TAt]at h⊢;exact h.mono f
 | .bool _,_,_,_,h=>by simp only[TAt]at h⊢;exact h.mono f
 | .int _,_,_,_,h=>by simp only[TAt]at h⊢;exact h.mono f
 | .str _,_,_,_,h=>by simp only[TAt]at h⊢;exact h.mono f
 | .tuple _,_,_,_,h=>by simp only[TAt]at h⊢;exact h.mono f
 | .list ts,p,_,e,h=>by
  simp only[TAt]at h⊢;let⟨a,xs,b,j,l,g⟩:=h;exact⟨a,xs,b,j,(e [] a (by rw[aa7];exact b)).trans l,TAtL.monoP f (λi q a z=>e (i::q) a z) g⟩
 | .dict kvs,p,_,e,h=>by
  simp only[TAt]at h⊢;rcases h with⟨d,b,h⟩|⟨m,n,a,es,b,j,l,k,g⟩|⟨m,n,a,es,b,j,l,g⟩|⟨c,a,dx,C,xs,o,b,j,l,k,g⟩
  .exact .inl ⟨d,b,h.mono f⟩
  .exact .inr (.inl ⟨m,n,a,es,b,j,(e [] a (by rw[aa7];exact b)).trans l,k,TAtD.monoP f (λi q a z=>e (i::q) a z) g⟩)
  .exact .inr (.inr (.inl ⟨m,n,a,es,b,j,(e [] a (by rw[aa7];exact b)).trans l,TAtK.monoP f (λi q a z=>e (i::q) a z) g⟩))
  .exact .inr (.inr (.inr ⟨c,a,dx,C,xs,o,b,j,(e [] a (by rw[aa7];exact b)).trans l,k,TAtF.monoP f (λi q a z=>e (i::q) a z) g⟩))
theorem TAtL.monoP(b:Pers H H'):∀{ds:List dL}{p:List Nat}{i:Nat}{xs:List V},(∀i q a,τ.lookup (p++i::q)=some a->H' a=H a)->TAtL K H τ p i ds xs->TAtL K H' τ p i ds xs
 |[],_,_,_,_,h=>by simpa only[TAtL]using h
 |t::ts,p,i,_,e,h=>by
  simp only[TAtL]at h⊢;let⟨v,vs,d,g,c⟩:=h;exact⟨v,vs,d,TAt.monoP b (λq a z=>e i q a (by simpa using z)) g,TAtL.monoP b e c⟩
theorem TAtD.monoP(b:Pers H H'):∀{ds:List (dL×dL)}{p:List Nat}{i:Nat}{xs:List (Int×V×V)},(∀i q a,τ.lookup (p++i::q)=some a->H' a=H a)->TAtD K H τ p i ds xs->TAtD K H' τ p i ds xs
 |[],_,_,_,_,h=>by simpa only[TAtD]using h
 |(k,t)::r,p,i,_,e,h=>by
  simp only[TAtD]at h⊢;let⟨u,v,vs,f,d,g,c⟩:=h;exact⟨u,v,vs,f,d.mono b,TAt.monoP b (λq a z=>e i q a (by simpa using z)) g,TAtD.monoP b e c⟩
theorem TAtK.monoP(b:Pers H H'):∀{ds:List (dL×dL)}{p:List Nat}{i:Nat}{xs:List (Key×V)},(∀i q a,τ.lookup (p++i::q)=some a->H' a=H a)->TAtK K H τ p i ds xs->TAtK K H' τ p i ds xs
 |[],_,_,_,_,h=>by simpa only[TAtK]using h
 |(k,t)::r,p,i,_,e,h=>by
  simp only[TAtK]at h⊢;let⟨u,v,vs,f,d,g,c⟩:=h;exact⟨u,v,vs,f,d,TAt.monoP b (λq a z=>e i q a (by simpa using z)) g,TAtK.monoP b e c⟩
theorem TAtF.monoP(b:Pers H H'):∀{ds:List (dL×dL)}{p:List Nat}{i:Nat}{xs:List (Str×V)},(∀i q a,τ.lookup (p++i::q)=some a->H' a=H a)->TAtF K H τ p i ds xs->TAtF K H' τ p i ds xs
 |[],_,_,_,_,h=>by simpa only[TAtF]using h
 |(.str f,t)::r,p,i,_,e,h=>by
  simp only[TAtF]at h⊢;let⟨v,vs,j,g,c⟩:=h;exact⟨v,vs,j,TAt.monoP b (λq a z=>e i q a (by simpa using z)) g,TAtF.monoP b e c⟩
 |(.none,d)::r,_,_,_,e,h=>by simp only[TAtF]at h⊢;exact TAtF.monoP b e h
 |(.bool _,d)::r,_,_,_,_,h=>by simp only[TAtF]at h
 |(.int _,d)::r,_,_,_,_,h=>by simp only[TAtF]at h
 |(.list _,d)::r,_,_,_,_,h=>by simp only[TAtF]at h
 |(.tuple _,d)::r,_,_,_,_,h=>by simp only[TAtF]at h
 |(.dict _,d)::r,_,_,_,_,h=>by simp only[TAtF]at h
end
end
noncomputable def setT:dL->List Nat->dL->dL
 |_,[],n=>n
 | .list ts,i::p,n=>.list (ts.set i (setT (ts.getD i .none) p n))
 | .dict kvs,i::p,n=>.dict (kvs.set i ((kvs.getD i (.none,.none)).1,setT (kvs.getD i (.none,.none)).2 p n))
 |t,_::_,_=>t
section
variable {K:Kd}{H b:Hp}{τ:List (List Nat×Addr)}{p q:List Nat}{P:List Nat}
theorem TAtL.setL(k:Pers H b){t':dL}:∀{ts:List dL}{i j:Nat}{xs:List V},TAtL K H τ p i ts xs->(∀v,xs[j]?=some v->TAt K b τ (p++[i+j]) t' v)->(∀l,l≠i+j->∀q a,τ.lookup (p++l::q)=some a->b a=H a)->TAtL K b τ p i (ts.set j t') xs
 |[],_,_,_,h,_,_=>by simpa only[List.set_nil,TAtL]using h
 | t::ts,i,0,xs,h,c,e=>by
  simp only[TAtL]at h;let⟨v,vs,rfl,_,g⟩:=h;refine⟨v,vs,rfl,c v rfl,?_⟩;clear c;have:∀{ts:List dL}{d:Nat}{vs:List V},i<d->TAtL K H τ p d ts vs->TAtL K b τ p d ts vs:=by
   intro ts
   induction ts with
   |nil=>intro d vs _ h;simpa only[TAtL]using h
   |cons t ts o=>
    intro d vs n h;simp only[TAtL]at h⊢;let⟨v,vs,rfl,f,g⟩:=h;exact⟨v,vs,rfl,TAt.monoP k (λq a z=>e d (by exact aaY ‹_›) q a (by simpa using z)) f,o (by omega) g⟩
  exact this (ab1 i) g
 |t::ts,i,j+1,xs,h,c,e=>by
  simp only[TAtL]at h;let⟨v,vs,rfl,f,g⟩:=h;exact⟨v,vs,rfl,TAt.monoP k (λq a z=>e i (by simp) q a (by simpa using z)) f,TAtL.setL k g (λm z=>by rw[show i+1+j=i+(j+1) by omega];exact c m (by simpa using z)) λl n=>e l (by omega)⟩
theorem TAtK.rest(d:Pers H b){i:Nat}(e:∀l,l≠i->∀q a,τ.lookup (p++l::q)=some a->b a=H a):∀{ts:List (dL×dL)}{c:Nat}{vs:List (Key×V)},i<c->TAtK K H τ p c ts vs->TAtK K b τ p c ts vs
 |[],_,_,_,h=>by simpa[TAtK]
 |_::ts,c,vs,hl,h=>by
  let⟨k,v,vs,rfl,j,f,g⟩:=h;exact⟨k,v,vs,rfl,j,TAt.monoP d (λq a z=>e c (by exact aaY ‹_›) q a (by simpa using z)) f,TAtK.rest d e (by omega) g⟩
theorem TAtK.setK(m:Pers H b){t':dL}:∀{ts:List (dL×dL)}{i j:Nat}{xs:List (Key×V)}{d f:dL},TAtK K H τ p i ts xs->ts[j]?=some (d,f)->(∀v,(∃kk,xs[j]?=some (kk,v))->TAt K b τ (p++[i+j]) t' v)->(∀l,l≠i+j->∀q a,τ.lookup (p++l::q)=some a->b a=H a)->TAtK K b τ p i (ts.set j (d,t')) xs
 |[],_,_,_,_,_,_,z,_,_=>by simp at z
 |(k,t)::ts,i,0,xs,d,f,h,z,c,e=>by
  simp at z;let⟨rfl,rfl⟩:=z;simp only[TAtK]at h;let⟨kk,v,vs,rfl,n,_,g⟩:=h;exact⟨kk,v,vs,rfl,n,c v ⟨kk,rfl⟩,TAtK.rest m e (ab1 i) g⟩
 |(k,t)::ts,i,j+1,xs,d,f,h,z,c,e=>by
  let⟨kk,v,vs,rfl,n,r,g⟩:=h;exact⟨kk,v,vs,rfl,n,TAt.monoP m (λq a z=>e i (by omega) q a (by simpa using z)) r,TAtK.setK m g (by simpa using z) (by intro s ⟨o,z⟩;rw[show i+1+j=i+(j+1) by omega];exact c s ⟨o,by simpa using z⟩) λl u=>e l (by omega)⟩
end
theorem vc(nd:(τ.map (·.2)).Nodup){q:List Nat}(c:τ.lookup p=some a)(h:τ.lookup q=some a):p=q:=by
 induction τ with
 |nil=>cases c
 | cons x τ i=>
  let⟨r,b⟩:=x;rw[aar,aaR]at nd;rw[aci]at c h
  by_cases d:p==r
  .rw[d]at c;cases c
   by_cases e:q==r
   .simp_all
   .simp only[af6]at e;rw[e]at h;exact(nd.1 (bm h)).elim
  .simp only[af6]at d;rw[d]at c
   by_cases e:q==r
   .rw[e]at h;cases h;exact(nd.1 (bm c)).elim
   .simp only[af6]at e;rw[e]at h;exact i nd.2 c h
noncomputable def AE:dL->dL->Bool
 | .int a,.int b=>decide (a=b)
 | .str a,.str b=>decide (a=b)
 |_,_=>false
def qE(a b:Key):AE (keyD a) (keyD b)=decide (a=b):=by
 cases a<;>cases b<;>simp[keyD,AE]
noncomputable def putD(k t:dL):List (dL×dL)->List (dL×dL)
 |[]=>[(k,t)]
 |(k',t')::r=>if AE k' k=true then(k',t)::r else(k',t')::putD k t r
noncomputable def lfD:dL->dL
 | .list ds=>.dict [(.none,.list ds)]
 | .dict ds=>.dict [(.none,.dict ds)]
 |d=>d
theorem sy(h:isKd kvs=true):fzOf kvs=none/\excC kvs=none:=by
 cases kvs with
 |nil=>exact⟨rfl,rfl⟩
 |cons x r=>
  let⟨k,d⟩:=x
  cases k with
  |int _=>exact⟨rfl,rfl⟩
  |str _=>exact⟨rfl,rfl⟩
  |none=>simp[isKd]at h
  |bool _=>simp[isKd]at h
  |list _=>simp[isKd]at h
  |tuple _=>simp[isKd]at h
  |dict _=>simp[isKd]at h
section
variable {K:Kd}{H:Hp}{τ:List (List Nat×Addr)}{p:List Nat}
theorem TAtK.get':∀{ts:List (dL×dL)}{i j:Nat}{xs:List (Key×V)}{k t:dL},TAtK K H τ p i ts xs->ts[j]?=some (k,t)->∃kk v,xs[j]?=some (kk,v)/\k=keyD kk/\TAt K H τ (p++[i+j]) t v
 |[],_,_,_,_,_,_,e=>by simp at e
 |(k,t)::ts,i,0,xs,k',t',h,e=>by
  let⟨u,v,vs,rfl,l,g,_⟩:=h;simp at e;let⟨rfl,rfl⟩:=e;exact⟨u,v,rfl,l.1,g⟩
 |(k,t)::ts,i,j+1,xs,k',t',h,e=>by
  let⟨u,v,vs,rfl,_,_,f⟩:=h;let⟨kk,a,c,d,b⟩:=TAtK.get' (j:=j) f ‹_›;exact⟨kk,a,by simpa using c,d,by rw[show i+(j+1)=i+1+j by omega];exact b⟩
theorem TAtK.kd:∀{ts:List (dL×dL)}{i:Nat}{xs:List (Key×V)},TAtK K H τ p i ts xs->isKd ts=true
 |[],_,_,_=>rfl
 |_::ts,i,xs,h=>by
  let⟨u,v,vs,rfl,a,_,g⟩:=h;have:=g.kd;unfold isKd at this⊢;rw[acK,this,a.1]
  cases u<;>rfl
theorem TAtK.len:∀{ts:List (dL×dL)}{i:Nat}{xs:List (Key×V)},TAtK K H τ p i ts xs->ts.length=xs.length
 |[],_,_,h=>by simp[TAtK]at h;subst h;rfl
 |(k,t)::ts,i,xs,h=>by
  let⟨u,v,vs,rfl,a,_,g⟩:=h;simp[g.len]
theorem qB{u:Key}{w:V}(c:u≠kk):putK ((u,w)::vs) kk v=(u,w)::putK vs kk v:=by
 unfold putK
 grind
theorem o8{w:V}(h:∀x∈vs,x.1≠kk):putK ((kk,w)::vs) kk v=(kk,v)::vs:=by
 unfold putK;rw[afR,decide_eq_true (rfl),Bool.true_or,if_pos rfl,aar,if_pos rfl]
 congr 1
 exact(ag5 λx a=>if_neg (h x a)).trans (List.map_id _)
def Ce{x:Key×V}(h:x∈putK vs kk v):x.1=kk\/∃y∈vs,y.1=x.1:=by
 unfold putK at h
 split at h
 .obtain⟨y,h1,h2⟩:=aae.mp h;subst h2;refine .inr ⟨y,h1,?_⟩
  split<;>rfl
 .obtain h|h:=aaO.mp h
  .exact .inr ⟨x,h,rfl⟩
  .cases aab.mp h
   exact .inl rfl
theorem TAtK.put{t':dL}{v':V}(c:∀j,TAt K H τ (p++[j]) t' v'):∀{ts:List (dL×dL)}{i:Nat}{xs:List (Key×V)},TAtK K H τ p i ts xs->TAtK K H τ p i (putD (keyD kk) t' ts) (putK xs kk v')
 |[],i,xs,h=>by
  simp only[TAtK]at h;subst h;exact⟨kk,v',[],rfl,⟨rfl,λx a=>by cases a⟩,c i,rfl⟩
 | (k,t)::ts,i,xs,h=>by
  let⟨u,v,vs,rfl,g,d,b⟩:=h;let⟨rfl,g⟩:=g;simp only[putD,qE]
  by_cases e:u=kk
  .subst e;rw[if_pos (decide_eq_true rfl),o8 g];simp only[TAtK];exact⟨u,v',vs,rfl,⟨rfl,g⟩,c i,b⟩
  .rw[if_neg (by simpa using e),qB e];simp only[TAtK];refine⟨u,v,_,rfl,⟨rfl,λx a=>?_⟩,d,b.put c⟩;rcases Ce a with z|⟨y,f,z⟩
   .rw[z];exact λw=>e w.symm
   .rw[<-z];exact g y f
theorem xQ{d:dL}(h:Den K H d v):TAt K H τ p (lfD d) v:=by
 cases d with
 |list ds=>simp[lfD];exact .inl ⟨_,rfl,h⟩
 |dict ds=>simp[lfD];exact .inl ⟨_,rfl,h⟩
 |none=>simpa[ TAt]
 |bool _=>simpa[lfD]
 |int _=>simpa[ TAt]
 |str _=>simpa[lfD]
 |tuple _=>simpa[ TAt]
theorem TAt.kd(h:TAt K H τ p (.dict kvs) v)(e:isKd kvs=true):∃a es,τ.lookup p=some a/\v = .ref a/\H a=some (.dK es)/\TAtK K H τ p 0 kvs es:=by
 obtain _:=sy e;rcases h with _|⟨_,_,b,es,f,d,c,k,g⟩|⟨_,_,b,es,f,d,c,g⟩|_
 .simp_all
 .rw[k.1]at e;cases e
 .exact⟨b,es,f,d,c,g⟩
 .simp_all
end
noncomputable def okW:dL->List Nat->Bool
 |_,[]=>true
 | .list ts,i::q=>okW (ts.getD i .none) q
 | .dict kvs,i::q=>(isKd kvs||(excC kvs).isSome)&&okW (kvs.getD i (.none,.none)).2 q
 |_,_::_=>false
theorem BC{i:Nat}{k t':dL}(h:isKd kvs=true)(e:kvs[i]?=some (k,t)):isKd (kvs.set i (k,t'))=true:=by
 unfold isKd at h⊢;rw[ab2]at h⊢;intro x a;rcases afG a with z|z
 .exact h x z
 .subst z;exact h (k,t) (oR e)
theorem TAtF.restF{K:Kd}{H c:Hp}{τ:List (List Nat×Addr)}{p:List Nat}(g:Pers H c){i:Nat}(e:∀l,l≠i->∀q a,τ.lookup (p++l::q)=some a->c a=H a):∀{ts:List (dL×dL)}{b:Nat}{vs:List (Str×V)},i<b->TAtF K H τ p b ts vs->TAtF K c τ p b ts vs
 |[],_,_,_,h=>by simpa only[TAtF]
 |(.str f,t)::ts,b,vs,hl,h=>by
  let⟨v,vs,rfl,j,k⟩:=h;exact⟨v,vs,rfl,TAt.monoP g (λq a z=>e b (by omega) q a (by simpa using z)) j,TAtF.restF g e (by omega) k⟩
 |(.none,d)::r,_,_,hl,h=>by simp only[TAtF];exact TAtF.restF g e (by omega) h
 |(.bool _,d)::r,_,_,_,h=>by simp[TAtF]at h
 |(.int _,d)::r,_,_,_,h=>by simp only[TAtF]at h
 |(.list _,d)::r,_,_,_,h=>by simp only[TAtF]at h
 |(.tuple _,d)::r,_,_,_,h=>by simp[TAtF]at h
 |(.dict _,d)::r,_,_,_,h=>by simp[TAtF]at h
theorem TAtF.setF{K:Kd}{H m:Hp}{τ:List (List Nat×Addr)}{p:List Nat}(g:Pers H m){t' u:dL}{w:Str}:∀{ts:List (dL×dL)}{i j:Nat}{xs:List (Str×V)},TAtF K H τ p i ts xs->ts[j]?=some (.str w,u)->(∀v,TAt K H τ (p++[i+j]) u v->TAt K m τ (p++[i+j]) t' v)->(∀l,l≠i+j->∀q a,τ.lookup (p++l::q)=some a->m a=H a)->TAtF K m τ p i (ts.set j (.str w,t')) xs
 |[],_,_,_,_,z,_,_=>by simp at z
 |(k,t)::ts,i,0,xs,h,z,c,e=>by
  simp at z;let⟨rfl,rfl⟩:=z;simp only[TAtF]at h;let⟨v,vs,rfl,n,s⟩:=h;simp only[List.set_cons_zero,TAtF];exact⟨v,vs,rfl,c v n,TAtF.restF g e (ab1 i) s⟩
 |(.str f,t)::ts,i,j+1,xs,h,z,c,e=>by
  simp only[TAtF]at h;let⟨v,vs,rfl,n,s⟩:=h;exact⟨v,vs,rfl,TAt.monoP g (λq a z=>e i (by omega) q a (by simpa using z)) n,TAtF.setF g s (by simpa using z) (λo b=>by rw[show i+1+j=i+(j+1) by omega]at b⊢;exact c o b) λl x=>e l (by omega)⟩
 |(.none,d)::ts,i,j+1,xs,h,z,c,e=>by
  simp only[TAtF]at h;simp only[List.set_cons_succ,TAtF];exact TAtF.setF g h (by simpa using z) (λo b=>by rw[show i+1+j=i+(j+1) by omega]at b⊢;exact c o b) λl x=>e l (by omega)
 |(.bool _,d)::r,_,_+1,_,h,_,_,_=>by simp only[TAtF]at h
 |(.int _,d)::r,_,_+1,_,h,_,_,_=>by simp only[TAtF]at h
 |(.list _,d)::r,_,_+1,_,h,_,_,_=>by simp only[TAtF]at h
 |(.tuple _,d)::r,_,_+1,_,h,_,_,_=>by simp only[TAtF]at h
 |(.dict _,d)::r,_,_+1,_,h,_,_,_=>by simp only[TAtF]at h
theorem TAt.ins{c:Str}(h:TAt K H τ p (.dict kvs) v)(e:excC kvs=some c):∃a dx C xs,τ.lookup p=some a/\v = .ref a/\H a=some (.ins C dx xs)/\ClsN K c C/\TAtF K H τ p 0 kvs xs:=by
 have b:fzOf kvs=none:=by
  unfold excC at e
  split at e
  .rfl
  .cases e
 simp only[TAt]at h
 grind
theorem Cb{i:Nat}{x:dL×dL}{c:Str}{k:dL}(h:excC kvs=some c)(e:kvs[i]?=some (k,t))(a:k≠.none):excC (kvs.set i x)=some c:=by
 cases kvs with
 |nil=>cases h
 | cons y r=>
  cases i with
  |zero=>
   simp;unfold excC at h
   simp_all
  |succ i=>
   unfold excC at h⊢
   split at h
   .rename_i z;simp at z;let⟨rfl,rfl⟩:=z;exact h
   .cases h
theorem TAt.set{K:Kd}{H:Hp}{τ:List (List Nat×Addr)}(nd:(τ.map (·.2)).Nodup){a:Addr}{o:HO}{n:dL}(M:Pers H (upd H a o)):∀{q p:List Nat}{t J:dL}{v:V},TAt K H τ p t v->getT t q=some J->okW t q=true->τ.lookup (p++q)=some a->TAt K (upd H a o) τ (p++q) n (.ref a)->(∀u,TAt K H τ (p++q) J u->u = .ref a)->TAt K (upd H a o) τ p (setT t q n) v
 |[],p,t,J,v,h,e,_,_,hn,hu=>by
  cases e;rw[aa7]at hn hu;rw[hu v h];unfold setT;exact hn
 | i::q,p,t,J,v,h,e,ok,ea,hn,hu=>by
  have f:∀(r:List Nat) (b:Addr),τ.lookup r=some b->r≠p++i::q->(upd H a o) b=H b:=λr b z ne=>au λeb=>by
   subst eb;exact ne (vc nd z ea)
  have G:τ.lookup ((p++[i])++q)=some a:=by simpa using ea
  have I:TAt K (upd H a o) τ ((p++[i])++q) n (.ref a):=by simpa using hn
  have D:∀u,TAt K H τ ((p++[i])++q) J u->u = .ref a:=λu z=>hu u (by simpa using z);simp only[getT]at e
  cases z:chD t i with
  |none=>rw[z]at e;cases e
  | some O=>
   rw[z]at e;have T:getT O q=some J:=e;have F:∀l,l≠0+i->∀r b,τ.lookup (p++l::r)=some b->(upd H a o) b=H b:=λl hl r b Q=>f _ _ Q λy=>by
    have:=List.append_cancel_left y;injection this with h1 _
    omega
   have self:∀b,τ.lookup p=some b->(upd H a o) b=H b:=λb Q=>f _ _ Q λy=>by
    have:=congrArg aeU y;simp at this
   cases t with
   |list ts=>
    have d:ts[i]?=some O:=z;have L:ts.getD i .none=O:=by rw[Mt,d];rfl
    simp only[TAt]at h;let⟨b,R,A,E,N,g⟩:=h;simp only[setT,L,TAt];refine⟨b,R,A,E,(self b A).trans N,TAtL.setL M g (λY U=>?_) F⟩;let⟨v2,m,B⟩:=g.get (j:=i) d;rw[U]at m;cases m;rw[abK]at B⊢;exact TAt.set nd M B T (by simp only[okW,L]at ok;exact ok) G I D
   | dict s=>
    simp only[chD]at z
    cases d:s[i]? with
    |none=>rw[d]at z;cases z
    |some kt=>
     let⟨k,P⟩:=kt;rw[d]at z;have X:k≠.none:=λw=>by subst w;cases z
     have E:P=O:=by split at z<;>simp_all
     subst E;have L:s.getD i (.none,.none)=(k,P):=by rw[Mt,d];rfl
     simp only[okW,L,aaT,agx]at ok;rcases ok.1 with x|x
     .obtain⟨b,es,A,E,N,g⟩:=h.kd x;have W:isKd (s.set i (k,setT P q n))=true:=BC x d;let⟨n1,n2⟩:=sy W;simp only[setT,L,TAt];refine .inr (.inr (.inl ⟨n1,n2,b,es,A,E,(self b A).trans N,TAtK.setK M g d (λY ⟨kk,U⟩=>?_) F⟩));let⟨Z,v2,m,_,B⟩:=g.get' (j:=i) d;rw[U]at m;cases m;rw[abK]at B⊢;exact TAt.set nd M B T ok.2 G I D
     .obtain⟨c,ec⟩:=afO.mp x;let⟨b,dx,C,R,A,E,N,kc,g⟩:=h.ins ec;let⟨f0,rfl⟩:=g.key (oR d) X;have S:excC (s.set i (.str f0,setT P q n))=some c:=Cb ec d X;simp only[setT,L,TAt];refine .inr (.inr (.inr ⟨c,b,dx,C,R,S,A,E,(self b A).trans N,kc,TAtF.setF M g d (λY B=>?_) F⟩));rw[abK]at B⊢;exact TAt.set nd M B T ok.2 G I D
   |none=>cases z
   |bool _=>cases z
   |int _=>cases z
   |str _=>cases z
   |tuple _=>cases z
noncomputable abbrev onAt(P:Nat->List Nat->Prop):R->Prop
 | .at k p=>P k p
 |_=>False
noncomputable abbrev Jh(P:dL->Prop):R->Prop
 | .imm (.int i)=>P (.int i)
 | .imm (.str x)=>P (.str x)
 |_=>False
section
variable {K:Kx}{b:Al}{c H:Hp}{r:R}{v:V}{m:MSt}{d:St}
theorem OW{P:Nat->List Nat->Prop}(rr:RelR K b c H r v)(h:onAt P r):∃k p τ a,r = .at k p/\b[k]?=some (.T τ)/\τ.lookup p=some a/\v = .ref a/\P k p:=by
 unfold onAt at h
 split at h
 .obtain⟨τ,a,e1,e2,e3⟩:=rr;exact⟨_,_,τ,a,rfl,e1,e2,e3,h⟩
 .simp_all
theorem Pi{P:dL->Prop}(rr:RelR K b c H r v)(h:Jh P r):∃kk:Key,r = .imm (keyD kk)/\v=kV kk/\P (keyD kk):=by
 unfold Jh at h
 split at h
 .rename_i i;exact⟨.inl i,rfl,aM (show Den K H _ v from rr),h⟩
 .rename_i x;exact⟨.inr x,rfl,bx (show Den K H _ v from rr),h⟩
 .simp_all
theorem Rel.dict(R:Rel K b m d H){k:Nat}(i:b[k]?=some (.T τ))(n:τ.lookup p=some a)(f:m.os[k]?=some [t])(h:getT t p=some (.dict kvs))(e:isKd kvs=true) :
  ∃es,H a=some (.dK es)/\TAtK K H τ p 0 kvs es:=by
 let⟨⟨o,q,z,g,_⟩,_⟩:=R.own k _ _ i f;cases z;let⟨l,j⟩:=g.get h;obtain _:=j.kd e
 simp_all
end
section
variable {X:Cx}{o i e:Expr}{w f h:WE}{pos c:Pos}
noncomputable def QZ(m:MSt)(k:Nat)(p:List Nat)(y d:dL)(P:dL->Prop):Prop:=∃t a,m.os[k]?=some [t]/\getT t p=some (.dict a)/\isKd a=true/\okW t p=true/\a.length<aad/\P (setT t p (.dict (putD y (lfD d) a)))
noncomputable abbrev LR(h w f:WE):WS:=λD m=>h m λg m1=>i7 (λd=>w m1 λb m2=>f m2 λr a=>onAt (λk p=>Jh (λy=>QZ a k p y d λt=>D.nx {a with os:=a.os.set k [t]}) r) b) g
theorem JQ(hu:X.A.units+64<cLine)(he:ME X e h)(ho:ME X o w)(hi:ME X i f)(hs:abQ e (some (.Subscript o i c)) pos.line X.env=pure false:=by rfl):MS X (.Assign [.Subscript o i c] e pos) (LR h w f):=(GG (by omega) ho hi he hs).wk<|by
 intro D σ H ⟨C,m,De,Rl,hw,k⟩;refine⟨C,m,_,Rl,hw,λr m1 v H1 q n1 A rr F1=>?_⟩;let⟨d,er,hd,q⟩:=fE rr q;refine⟨C,m1,_,A,q,λro m2 ov H2 q2 n2 B O F2=>⟨C,m2,_,B,q2,λri m3 iv s E n3 R Q Z=>?_⟩⟩;let⟨kk,p,F,a,rfl,K,n,rfl,E⟩:=OW O E;let⟨y,rfl,rfl,t,l,e3,U,V,e6,e7,E⟩:=Pi Q E;let⟨I,Y,T⟩:=R.dict K n e3 U V;have M:Den X.kx s d v:=(hd.mono (A.pers F2)).mono (B.pers Z);let⟨⟨t1,v0,z,g,a0,N,P⟩,mu⟩:=R.own kk (.T F) _ K e3;cases z;have J:Pers s (upd s a (.dK (putK I y v))):=bu (.inr ⟨_,Y,rfl⟩);have nd:(F.map (·.2)).Nodup:=((fH C).mp R.nd).1 (.T F) (oR K);have L:TAtK X.kx (upd s a (.dK (putK I y v))) F p 0 l I:=TAtK.monoP J (λi q b zb=>au λeb=>by
  subst eb;have:=congrArg aeU (vc nd zb n);simp at this) T
 have new:TAt X.kx (upd s a (.dK (putK I y v))) F p (.dict (putD (keyD y) (lfD d) l)) (.ref a):=by
  have W:=L.put (kk:=y) (t':=lfD d) (v':=v) λj=>xQ (M.mono J);let⟨z1,z2⟩:=sy W.kd;simp only[TAt];exact .inr (.inr (.inl ⟨z1,z2,a,_,n,rfl,ay,W⟩))
 have all:=TAt.set nd J g U e6 (by rw[acB];exact n) (by rw[acB];exact new) λu x=>by
  rw[acB]at x;let⟨a',es',G,eu,_⟩:=x.kd V;rw[n]at G;cases G;exact eu
 let⟨S,F4⟩:=R.setW K J (ds':=[setT t p (.dict (putD (keyD y) (lfD d) l))]) (λb hb=>au λeb=>hb (eb▸bm n)) ⟨⟨_,v0,rfl,all,a0,N,P⟩,λb hb=>by
  by_cases eb:b=a
  .subst eb;exact⟨_,ay,rfl⟩
  .rw[au eb];exact mu b hb⟩
 exact⟨a,_,rfl,DPut.k Y (by rw[<-T.len];exact e7),k.nx C _ σ _ E (n3.trans (n2.trans n1)) S (.of S (((F1.trans F2).trans Z).trans F4))⟩
noncomputable def lfKV(kvs:List (dL×dL)):List (dL×dL):=kvs.map λk=>(k.1,lfD k.2)
end
section
variable {m:MSt}{Q:R->MSt->Prop}{w a b:WE}{D:d7}
theorem Bh{n:Nat}{P:MSt->Prop}(h:P {vs:=m.vs.set n (some (.at m.os.length [])),os:=m.os++[[t]],np:=m.np}):pq n P m (.newT t):=.inl h
end
section
variable {X:Cx}{o i e:Expr}{w a b:WE}{pos p:Pos}
def Bw(c:X.A.units+64<cLine)(h:EE X e b)(ho:EE X o w)(hi:EE X i a)(hs:abQ e (some (.Subscript o i p)) pos.line X.env=pure false:=by rfl):ES X (.Assign [.Subscript o i p] e pos) (LR b w a):=⟨JQ c h.h ho.h hi.h hs⟩
end
noncomputable def isFz:HO->Bool
 | .lst _=>true
 | .dK _=>true
 | .ext _=>true
 |_=>false
section
variable {X:Cx}{p:List (Addr×Obj)}{d:St}{H:Hp}{s:mT}
theorem Inv.freezeU{u:HO}(I:Inv X p d H s)(h:H a=some u)(g:isFz u=true):∃o,Inv X p d (upd H a (.frz o u)) s:=by
 have ok:=I.hok a u h;let⟨o,e⟩:∃o,s.heap.get? a=some o:=by
  cases u with
  |lst l=>let⟨_,j,n,_,e⟩:=ok;exact⟨_,e⟩
  |dK k=>let⟨_,_,vs,_,o,_,_,e,_⟩:=ok;exact⟨_,e⟩
  |ext m=>exact ok.2.1
  |_=>cases g
 have i:∀{b:Addr}{v:HO},H b=some v->v≠u->b≠a:=λq z=>sU q h z;refine⟨o,I.un (h':=s.heap) (t':=s.toks) ⟨λb f q _ _ _=>q,λb f q _ _ _=>⟨f.slots,q⟩,λb f q z _=>?_,λb f q _=>⟨f,q⟩,λb y q=>?_,λb f v q=>?_,λb r q=>⟨#[],?_⟩⟩ λb f q=>?_⟩
 .rw[au (abf (bf h z))];exact z
 .rw[au (i q (by intro z;subst z;cases g))];exact q
 .rw[au (i q (by intro z;subst z;cases g))];exact q
 .rw[au (i q (by intro z;subst z;cases g)),q];simp
 .have stay:∀{c:Addr}{v:HO},ObjOk X.prog X.w H s.heap c v->ObjOk X.prog X.w (upd H a (.frz o u)) s.heap c v:=λx=>x.stay (λ_ _ _ z=>z) (λc z=>by rw[au (i z (by intro z;subst z;cases g))];exact z) λc y z=>by rw[au (i z (by intro z;subst z;cases g))];exact z
  by_cases hb:b=a
  .subst hb;rw[ay]at q;cases q;exact⟨e,stay ok⟩
  .rw[au hb]at q;exact stay (I.hok b f q)
end
noncomputable def tFrz(t:TS):TS:=λD b H=>∃a u,H a=some u/\isFz u=true/\∀o,t D b (upd H a (.frz o u))
section
variable {X:Cx}{st:Stmt}{w:WS}
theorem Md{t:TS}(h:PS X st t):PS X st (tFrz t):=by
 intro p s d H D I ⟨a,u,e,b,q⟩;let⟨o,c⟩:=I.freezeU e b;exact h p s d _ D c (q o)
theorem Dn{K:Kx}{m:MSt}(R:Rel K α m σ H)(N:Ren ρ m m2):Rel K (ρ.map λk=>α.getD k (.L 0)) m2 σ H/\Ext m.np α H (ρ.map λk=>α.getD k (.L 0)) H:=by
 have t:=gf R.len N.lt;have get:∀(k:Nat) (b:Ao),(ρ.map λk=>α.getD k (.L 0))[k]?=some b->∃j:Nat,ρ[k]?=some j/\α[j]?=some b:=λk b z=>by
  let⟨j,E,C⟩:=Paired.get2 t z;exact⟨j,E,C⟩
 have f:∀(k j:Nat) (b:Ao),ρ[k]?=some j->α[j]?=some b->(ρ.map λk=>α.getD k (.L 0))[k]?=some b:=λk j b u s=>by
  let⟨D,L,B⟩:=Paired.get' t u;rw[s]at B;cases B;exact L
 have g:(ρ.map λk=>α.getD k (.L 0)).take m.np=α.take m.np:=by
  apply abD;intro l;rw[aaP,aaP]
  by_cases c:l<m.np
  .rw[if_pos c,if_pos c];have:ρ[l]?=some l:=by
    have e:=congrArg (·[l]?) N.pre;simp only[aaP,if_pos c]at e;rw[e,aca c]
   have i:l<α.length:=aan c R.npl;rw[f l l α[l] this (iO i),iO i]
  .rw[if_neg c,if_neg c]
 have ext:Ext m.np α H (ρ.map λk=>α.getD k (.L 0)) H:=⟨g,Frm.refl _ _,λa ha=>by
  let⟨k,b,G,M⟩:=ig ha;let⟨j,_,I⟩:=get k b G;exact .inl (ju I M),λa ha=>by
  let⟨o,q,_⟩:=R.mem ha;exact⟨_,q⟩⟩
 refine⟨⟨f7 R.nd N.nd t,?_,λk b ds u s=>?_,?_,λj r z=>?_,?_,by rw[N.np];exact R.ebl,R.ebx.trans (ext.less R.ebl)⟩,ext⟩
 .rw[N.os,gE,gE]
 .obtain⟨j,q,qa⟩:=get k b u;rw[N.os,GE,q]at s;have O:j<m.os.length:=N.lt j (oR q);have y:m.os.getD j []=ds:=aal s;refine R.own j b ds qa ?_;rw[<-y,Mt,iO O];rfl
 .rw[N.vl];exact R.vlen
 .have h:=N.vs j r z
  cases r with
  |imm d=>exact R.var j (.imm d) h
  |new _=>exact h.elim
  |newT _=>exact h.elim
  |obj k=>
   let⟨n,q,h⟩:=h;let⟨v,A,a,x,e⟩:=R.var j (.obj n) h;exact⟨v,A,a,f k n _ q x,e⟩
  | «at» k p=>
   let⟨n,q,h⟩:=h;let⟨v,A,F,a,x,J,e⟩:=R.var j (.at n p) h;exact⟨v,A,F,a,f k n _ q x,J,e⟩
 .rw[N.np,gE];exact N.npl
structure Fz(k:Nat)(dd:dL)(ρ:List Nat)(m m2:MSt):Prop where
 nd:ρ.Nodup
 lt:∀k∈ρ,k<m.os.length
 out:k∉ρ
 pre:ρ.take m.np=aaw m.np
 npl:m.np≤ρ.length
 npk:m.np≤k
 os:m2.os=ρ.map λk=>m.os.getD k []
 np:m2.np=m.np
 vl:m2.vs.length=m.vs.length
 vs:∀(j:Nat) (r:R),m2.vs[j]?=some (some r)->RenR ρ m.vs[j]? r\/(r = .imm dd/\(m.vs[j]?=some (some (.obj k))\/m.vs[j]?=some (some (.at k []))))
noncomputable def Fz.ren{k:Nat}{d:dL}{b:List Nat}{m m2:MSt}(F:Fz k d b m m2):∃a,Ren b m a/\a.np=m2.np/\a.os=m2.os/\a.vs.length=m2.vs.length/\∀(j:Nat) (r:R),m2.vs[j]?=some (some r)->a.vs[j]?=some (some r)\/(r = .imm d/\(m.vs[j]?=some (some (.obj k))\/m.vs[j]?=some (some (.at k [])))):=by
 classical
 refine⟨{m2 with vs:=m2.vs.mapIdx λj o=>match o with|some r=>if RenR b m.vs[j]? r then some r else none|none=>none},⟨F.nd,F.lt,F.pre,F.npl,F.os,F.np,by rw[<-F.vl];simp,λj r z=>?_⟩,rfl,rfl,by simp,λj r z=>?_⟩
 .simp only[agR]at z
  cases q:m2.vs[j]? with
  |none=>rw[q]at z;cases z
  | some o=>
   rw[q]at z
   cases o with
   |none=>cases z
   |some c=>
    simp only[acD,ahC]at z
    split at z
    .cases z;assumption
    .cases z
 .rcases F.vs j r z with h|h
  .left;simp only[agR,z,acD,if_pos h]
  .exact .inr h
theorem r8{m:MSt}{t:d7}{D:Ends}{k:Nat}{B:dL}{ao:Ao}{u:HO}(c:Rel X.kx α m σ H)(U:EndsOk X.kx m.np α H t D)(F:Fz k B ρ m m2)(I:α[k]?=some ao)(G:a∈ao.ads)(A:H a=some u)(q:isFz u=true)(T:Mu u=true)
  (l:∀o,Pers H (upd H a (.frz o u))->Den X.kx (upd H a (.frz o u)) B (.ref a)) (name:∀(j:Nat) (v:V),(m.vs[j]?=some (some (.obj k))\/m.vs[j]?=some (some (.at k [])))->σ[j]?=some (some v)->v = .ref a) (P:w t m2):tFrz (tMS X.kx w) D σ H:=by
 let⟨Y,N,d,f,g,s⟩:=F.ren;let⟨O,y⟩:=Dn c N;refine⟨a,u,A,q,λo=>?_⟩;have C:Pers H (upd H a (.frz o u)):=bu (.inr ⟨u,A,T⟩);have p:a∈ads α:=ju I G;have out:a∉ads _:=λz=>by
  let⟨i,x,Q,L⟩:=ig z;let⟨j,K,J⟩:=Paired.get2 (gf c.len N.lt) Q;exact gl c.nd I J (λz=>F.out (z▸oR K)) G L
 have E:Ext m.np α H (ρ.map λk=>α.getD k (.L 0)) (upd H a (.frz o u)):=⟨y.pre,λb W e n=>by rw[au (λz=>n (by rw[z];exact p))];exact e,y.new,λb hb=>by
  by_cases eb:b=a
  .subst eb;exact⟨_,ay⟩
  .rw[au eb];exact y.old b hb⟩
 have R:=O.at' C (λb hb=>au λz=>out (z▸hb)) (c.ebx.trans (E.less c.ebl));refine⟨_,m2,t,⟨R.nd,by rw[R.len,f],λk ao ds S M=>R.own k ao ds S (by rw[f];exact M),by rw[R.vlen,g],λj r z=>?_,by rw[<-d];exact R.npl,by rw[<-d];exact R.ebl,R.ebx⟩,P,by rw[F.np];exact U.ext E⟩;rcases s j r z with h|⟨rfl,h⟩
 .exact R.var j r h
 .obtain⟨v,ev⟩:∃v,σ[j]?=some (some v):=by
   rcases h with h|h
   .obtain⟨v,ev,_⟩:=c.var j _ h;exact⟨v,ev⟩
   .obtain⟨v,ev,_⟩:=c.var j _ h;exact⟨v,ev⟩
  refine⟨v,ev,?_⟩;rw[name j v h ev];exact l o C
def w9(d:dL):zn (lfD d)=some d:=by cases d<;>rfl
theorem fzKK{K:Kd}{H:Hp}{τ:List (List Nat×Addr)}{p:List Nat}:∀{kvs:List (dL×dL)}{i:Nat}{es:List (Key×V)},TAtK K H τ p i (lfKV kvs) es->DenKK K H kvs es
 |[],_,_,h=>by simpa[ TAtK]
 |(k,d)::r,i,es,h=>by
  let⟨a,v,vs,rfl,c,b,g⟩:=h;exact⟨a,v,vs,rfl,c,jD b (w9 d),fzKK g⟩
noncomputable def wFzK(w:WS):WS:=λD m=>∃(k j:Nat) (a:List (dL×dL)) (b:List Nat) (m2:MSt),m.vs[j]?=some (some (.at k []))/\m.os[k]?=some [.dict (lfKV a)]/\isKd (lfKV a)=true/\Fz k (.dict a) b m m2/\w D m2
theorem PK(h:MS X st w):MS X st (wFzK w):=(Md h).wk<|by
 intro D y H ⟨z,m,A,R,⟨k,t,n,x,m2,i,f,kd,F,s⟩,r⟩;let⟨v,B,u,a,c,e,rfl⟩:=R.var t _ i;let⟨d,l,g⟩:=R.dict c e f rfl kd;refine r8 R r F c (bm e) l rfl rfl (λo p=>?_) (λj v b q=>?_) s
 .exact⟨a,rfl,.inr (.inl ⟨d,o,ay,(fzKK g).mono p⟩)⟩
 .rcases b with b|b
  .obtain⟨v',ev',a',ea',_⟩:=R.var j _ b
   grind
  .obtain⟨v',ev',τ',a',ea',el',rfl⟩:=R.var j _ b
   grind
def Gg(h:ES X st w):ES X st (wFzK w):=⟨PK h.h⟩
end
noncomputable def FzVs(k:Nat)(d:dL)(a:List Nat):List (Option R)->List (Option R)->Prop
 |o::os,q::qs=>(RenO a o q\/(q=some (.imm d)/\(o=some (.obj k)\/o=some (.at k []))))/\FzVs k d a os qs
 |[],[]=>True
 |_,_=>False
theorem FzVs.len{k:Nat}{d:dL}{a:List Nat}:∀{os q:List (Option R)},FzVs k d a os q->q.length=os.length
 |[],[],_=>rfl
 |_::_,_::_,h=>congrArg (· + 1) (FzVs.len h.2)
 |[],_::_,h=>h.elim
 |_::_,[],h=>h.elim
theorem FzVs.get{k:Nat}{d:dL}{b:List Nat}:∀{os a:List (Option R)},FzVs k d b os a->∀(j:Nat) (r:R),a[j]?=some (some r)->RenR b os[j]? r\/(r = .imm d/\(os[j]?=some (some (.obj k))\/os[j]?=some (some (.at k []))))
 |o::os,q::a,h,0,r,e=>by
  have c:=by simpa using e
  subst c;rcases h.1 with h|_
  .exact .inl h
  .simp_all
 |o::os,q::a,h,j+1,r,e=>by simpa using FzVs.get h.2 j r ‹_›
 |[],[],_,_,_,e=>by simp at e
 |[],_::_,h,_,_,_=>h.elim
 |_::_,[],h,_,_,_=>h.elim
def II{k:Nat}{d:dL}{m:MSt}(nd:decide ρ.Nodup=true)(lt:(ρ.all λk=>Nat.blt k m.os.length)=true)(out:(ρ.all λi=>i != k)=true)(pre:ρ.take m.np=aaw m.np)(npl:Nat.ble m.np ρ.length=true)(npk:Nat.ble m.np k=true)(os:m2.os=ρ.map λk=>m.os.getD k [])(np:m2.np=m.np)(vs:FzVs k d ρ m.vs m2.vs):Fz k d ρ m m2:=
 ⟨of_decide_eq_true nd,λk h=>Nat.blt_eq.mp (ab2.mp lt k h),λz=>by simpa using ab2.mp out k z,pre,aex npl,aex npk,os,np,vs.len,λj r e=>vs.get j r e⟩
def QP{w:WS}{D:d7}{m:MSt}(k j:Nat)(kvs:List (dL×dL))(a:List Nat)(m2:MSt)(e:m.vs[j]?=some (some (.at k [])))(c:m.os[k]?=some [.dict (lfKV kvs)])(b:isKd (lfKV kvs)=true)(F:Fz k (.dict kvs) a m m2)(h:w D m2):wFzK w D m:=⟨k,j,kvs,a,m2,e,c,b,F,h⟩
noncomputable instance instDecPyData:DecidableEq dL:=λa b=>Classical.propDecidable (a=b)
mutual
noncomputable def jm:dL->Nat
 | .int _=>1
 | .str _=>1
 | .tuple ds=>d8 ds+1
 |_=>0
noncomputable def d8:List dL->Nat
 |[]=>0
 |d::ds=>jm d+d8 ds
end
noncomputable def kyD(d:dL):Bool:=(match d with| .tuple _=>true|_=>false)&&(hkD d&&(d.canLay0&&decide (d.depth≤7)))
theorem iy{d:dL}(h:kyD d=true):∃ds,d = .tuple ds/\hkA ds=true/\d.canLay0=true/\d.depth≤7:=by
 unfold kyD at h;rw[aaT,aaT,aaT,decide_eq_true_eq]at h
 cases d with
 |tuple ds=>exact⟨ds,rfl,by simpa[hkD]using h.2.1,h.2.2.1,h.2.2.2⟩
 |_=>simp at h
section
variable {w:World}{prog:aaD}
theorem o6(w:World):∀a b:List dL,gN w (a++b)=gN w a++gN w b
 |[],b=>by simp[gN]
 |d::a,b=>by simp[ gN,o6 w a b]
theorem mf:∀a b:List dL,d8 (a++b)=d8 a+d8 b
 |[],b=>by simp[d8]
 |d::a,b=>by simp[ d8,mf a b];omega
theorem sG:∀{ds:List dL}{d:dL},hkA ds=true->d∈ds->hkD d=true
 |x::ds,d,h,a=>by
  simp[hkA]at h;obtain rfl|a:=aam.mp a
  .exact h.1
  .exact sG h.2 a
theorem jp{ds:List dL}{d:dL}(h:d∈ds):d.depth≤aaq ds:=by
 induction ds with
 |nil=>cases h
 |cons x ds i=>
  show _≤max x.depth _
  grind
mutual
theorem lQ:∀(d:dL) {A:aa6}{E:lD->mT->Prop}{s:mT}{v:lD}{as:List Addr}{Q:Int->mT->Prop},hkD d=true->Reads s.heap v d as->A.units+d.depth<cLine->Q (d5 w d) {s with toks:=s.toks+jm d}->wpAny (model prog w) A (pyHash v) Q E s
 | .int i,A,E,s,v,as,Q,_,r,_,h=>by
  cases r;exact wpAny_pyHash_int (by simpa only[d5,jm]using h)
 | .str x,A,E,s,v,as,Q,_,r,_,h=>by
  cases r;exact wpAny_pyHash_str (by simpa only[d5,jm]using h)
 | .tuple ds,A,E,s,v,as,Q,hk,r,hu,h=>by
  cases r with
  | @tuple a o vs n _ _ ho hc hd hr=>
   have f:s.TypeIs (.ref a) "tuple":=⟨o,ho,hc⟩;have q:A.units<cLine:=aao (acl _ _) hu;have t:∀{P:Option lD->mT->Prop},P (some (.builtin "tuple.__hash__")) s->wpAny (model prog w) A (ahS (.ref a) "__hash__") P E s:=λp=>ad4 f afL.lookup p;simp only[d5,jm]at h;refine aD (m:=cRoomFor "hash" [.ref a]) (wpAny_cRoomFor_or (.inr q) (aD (m:=ahS _ _) (t ?_)));rw[if_neg (show ¬(some (lD.builtin "tuple.__hash__")==some ahl)=true by rw[beq_builtin_none];decide)];refine aD (m:=ahS _ _) (t (aD (m:=callSpecialIfBoundUnlessNone? (.ref a) "__hash__" _) ?_));refine wpAny_callSpecialIfBoundUnlessNone?_slot f afL (aaJ afL f F.entry_tuple_hash (aD (m:=adA (.ref a)) (wpAny_tupleItemsOf ho hd ?_)) (F.args_tuple_hash_1 _));refine aD ?_;rw[<-aht];refine aeG _
    (λrest (b:Array Int) j=>∃done left bs,ds=done++left/\adW s.heap rest left bs/\b.toList=gN w done/\j={s with toks:=s.toks+d8 done})
    _ ?_ ?_ _ _ ⟨[],ds,_,rfl,hr,by simp[gN],by simp[d8]⟩
   .rintro x rest b j ⟨done,left,bs,hds,hl,hb,rfl⟩
    cases hl with
    | @cons _ _ d ds' as1 bs1 r1 r2=>
     have k:d∈ds:=by rw[hds];simp
     refine aD (uJ ds d k (sG (by simpa only[hkD]using hk) k) (s:={s with toks:=s.toks+d8 done}) r1 ?_ ?_)
     .have:=jp k;have e:(acX ds).depth=aaq ds+1:=rfl;show A.units+1+d.depth<cLine;omega
     .have fin:∃c l g,ds=c++l/\adW s.heap rest l g/\(b.push (d5 w d)).toList=gN w c/\({s with toks:=s.toks+d8 done+jm d}:mT)={s with toks:=s.toks+d8 c }:=by
       refine⟨done++[d],ds',_,by rw[hds];simp,r2,?_,?_⟩
       .rw[aep,hb,o6];simp[gN]
       .rw[mf,ac5];simp[d8]
      first
       |exact Dl fin
       |exact aD (Dl (Dl fin))
   .rintro b j ⟨done,left,bs,hds,hl,hb,rfl⟩;cases hl;rw[aa7]at hds;subst hds;change wpAny _ _ (retInt (abM (b.toList:List Int))) _ _ _;rw[hb];refine wpAny_ret_mkInt ?_;show wpAny _ _ (if (decide (-(2:Int)^63≤abM (gN w ds))&&decide (abM (gN w ds)<2^63))=true then _ else _) Q E _;unfold reduceHash at h
    by_cases hr:(decide (-(2:Int)^63≤abM (gN w ds))&&decide (abM (gN w ds)<2^63))=true
    .rw[if_pos hr];rw[if_pos hr]at h;refine Dl ?_;simpa[ac5]using h
    .rw[if_neg hr];rw[if_neg hr]at h;refine aD (m:=rule _) (abH (Dl ?_));simpa[ac5]using h
 | .none,_,_,_,_,_,_,hk,_,_,_=>by simp only[hkD]at hk;cases hk
 | .bool _,_,_,_,_,_,_,hk,_,_,_=>by simp only[hkD]at hk;cases hk
 | .list _,_,_,_,_,_,_,hk,_,_,_=>by simp only[hkD]at hk;cases hk
 | .dict _,_,_,_,_,_,_,hk,_,_,_=>by simp only[hkD]at hk;cases hk
theorem uJ:∀(ds:List dL) (d:dL),d∈ds->∀{A:aa6}{E:lD->mT->Prop}{s:mT}{v:lD}{as:List Addr}{Q:Int->mT->Prop},hkD d=true->Reads s.heap v d as->A.units+d.depth<cLine->Q (d5 w d) {s with toks:=s.toks+jm d}->wpAny (model prog w) A (pyHash v) Q E s
 |x::ds,d,hm=>by
  intro b r a h;rcases aam.mp hm with e|c
  .rw[e]at b r a h;exact lQ x b r a h
  .exact uJ ds d c b r a h
end
mutual
theorem oZ:∀(a b:dL),hkD a=true->hkD b=true->aah a b=decide (a=b)
 | .int i,b,_,hb=>by
  cases b with
  |int j=>
   show decide (i=j)=_
   by_cases h:i=j
   .subst h;rw[decide_eq_true rfl,decide_eq_true rfl]
   .rw[decide_eq_false h,decide_eq_false (λz=>h (by cases z;rfl))]
  |str _=>rw[decide_eq_false (λz=>by cases z)];rfl
  |tuple _=>rw[decide_eq_false (λz=>by cases z)];rfl
  |none=>simp only[hkD]at hb;cases hb
  |bool _=>simp only[hkD]at hb;cases hb
  |list _=>simp only[hkD]at hb;cases hb
  |dict _=>simp only[hkD]at hb;cases hb
 | .str i,b,_,hb=>by
  cases b with
  |str j=>
   show decide (i=j)=_
   by_cases h:i=j
   .subst h;rw[decide_eq_true rfl,decide_eq_true rfl]
   .rw[decide_eq_false h,decide_eq_false (λz=>h (by cases z;rfl))]
  |int _=>rw[decide_eq_false (λz=>by cases z)];rfl
  |tuple _=>rw[decide_eq_false (λz=>by cases z)];rfl
  |none=>simp only[hkD]at hb;cases hb
  |bool _=>simp only[hkD]at hb;cases hb
  |list _=>simp only[hkD]at hb;cases hb
  |dict _=>simp only[hkD]at hb;cases hb
 | .tuple ds,b,ha,hb=>by
  cases b with
  |tuple e=>
   simp only[aah];rw[xI ds e (by simpa only[hkD]using ha) (by simpa only[hkD]using hb)]
   by_cases h:ds=e
   .subst h;rw[decide_eq_true rfl,decide_eq_true rfl]
   .rw[decide_eq_false h,decide_eq_false (λz=>h (by cases z;rfl))]
  |int _=>rw[decide_eq_false (λz=>by cases z)];rfl
  |str _=>rw[decide_eq_false (λz=>by cases z)];rfl
  |none=>simp only[hkD]at hb;cases hb
  |bool _=>simp only[hkD]at hb;cases hb
  |list _=>simp only[hkD]at hb;cases hb
  |dict _=>simp only[hkD]at hb;cases hb
 | .none,_,ha,_=>by simp only[hkD]at ha;cases ha
 | .bool _,_,ha,_=>by simp only[hkD]at ha;cases ha
 | .list _,_,ha,_=>by simp only[hkD]at ha;cases ha
 | .dict _,_,ha,_=>by simp only[hkD]at ha;cases ha
theorem xI:∀(a b:List dL),hkA a=true->hkA b=true->adr a b=decide (a=b)
 |[],[],_,_=>by rw[decide_eq_true rfl];rfl
 |[],_::_,_,_=>by rw[decide_eq_false (λz=>by cases z)];rfl
 |_::_,[],_,_=>by rw[decide_eq_false (λz=>by cases z)];rfl
 | x::a,y::b,ha,hb=>by
  simp only[hkA,aaT]at ha hb;simp only[adr];rw[oZ x y ha.1 hb.1,xI a b ha.2 hb.2]
  by_cases h:x=y
  .by_cases h2:a=b
   .subst h h2;rw[decide_eq_true rfl,decide_eq_true rfl,decide_eq_true rfl];rfl
   .rw[decide_eq_false h2,Bool.and_false,decide_eq_false (λz=>h2 (by cases z;rfl))]
  .rw[decide_eq_false h,Bool.false_and,decide_eq_false (λz=>h (by cases z;rfl))]
end
mutual
theorem Reads.hkeep{h h':aaX}{d:Addr}{o:Obj}{es:Array ab9}{e:Nat}(ho:h.get? d=some o)(hd:o.data = .dict es e)(hs:abk d h h'):∀(k:dL) {v:lD}{as:List Addr},hkD k=true->Reads h v k as->Reads h' v k as
 | .int _,_,_,_,r=>by cases r;exact .int _ _
 | .str _,_,_,_,r=>by cases r;exact .str _ _
 | .tuple ds,_,_,hk,r=>by
  cases r with
  | @tuple a o' vs n _ _ h1 h2 h3 h4=>
   have b:a≠d:=by
    rintro rfl;rw[ho]at h1;cases h1;rw[hd]at h3;cases h3
   exact .tuple ((hs.2 a b).trans h1) h2 h3 (ReadsAll.hkeep ho hd hs ds (by simpa only[hkD]using hk) h4)
 | .none,_,_,hk,_=>by simp only[hkD]at hk;cases hk
 | .bool _,_,_,hk,_=>by simp only[hkD]at hk;cases hk
 | .list _,_,_,hk,_=>by simp only[hkD]at hk;cases hk
 | .dict _,_,_,hk,_=>by simp only[hkD]at hk;cases hk
theorem ReadsAll.hkeep{h h':aaX}{d:Addr}{o:Obj}{es:Array ab9}{e:Nat}(ho:h.get? d=some o)(hd:o.data = .dict es e)(hs:abk d h h'):∀(a:List dL) {vs:List lD}{as:List Addr},hkA a=true->adW h vs a as->adW h' vs a as
 |[],_,_,_,r=>by cases r;exact .nil
 |k::a,_,_,hk,r=>by
  simp only[hkA,aaT]at hk
  cases r with
  |cons r1 b=>exact .cons (Reads.hkeep ho hd hs k hk.1 r1) (ReadsAll.hkeep ho hd hs a hk.2 b)
end
mutual
theorem lj:∀(d:dL) {A:aa6}{E:lD->mT->Prop}{s:mT}{v:lD}{as:List Addr}{n:Nat}{Q:Bool->mT->Prop},hkD d=true->Reads s.heap v d as->d.depth≤n->Q true s->wpAny (model prog w) A (eqIsQuiet n v) Q E s
 | .int _,_,_,_,_,_,_,_,_,r,_,h=>by cases r;rw[eqIsQuiet_byValue _ rfl];exact Dl h
 | .str _,_,_,_,_,_,_,_,_,r,_,h=>by cases r;rw[eqIsQuiet_byValue _ rfl];exact Dl h
 | .tuple ds,A,E,s,v,as,n,Q,hk,r,hn,h=>by
  cases r with
  | @tuple a o vs nn _ _ ho hc hd hr=>
   have f:s.TypeIs (.ref a) "tuple":=⟨o,ho,hc⟩;have e:(acX ds).depth=aaq ds+1:=rfl
   cases n with
   |zero=>omega
   | succ n=>
    unfold eqIsQuiet;refine aD (m:=ahS _ _) (ad4 f F.slot_tuple_eq.lookup (aD (m:=isInstance (.ref a) (.type "tuple")) (ack f isSubtype_tuple_tuple ?_)));simp only[if_false,adg,Bool.not_true];refine aD (m:=seqItems? (.ref a)) (acP ho hd ?_);refine aD ?_;show wpAny _ _ (forIn vs _ _) _ _ s;rw[<-aht];refine aeG _ (λrest r b=>r.1=none/\b=s/\∃left bs,(∀d∈left,d∈ds)/\adW s.heap rest left bs) _ ?_ ?_ _ _ ⟨rfl,rfl,ds,_,λ_ h=>h,hr⟩
    .rintro x rest r b ⟨hr',rfl,left,bs,hsub,hl⟩
     cases hl with
     | @cons _ _ d ds' as1 bs1 r1 r2=>
      have c:d∈ds:=hsub d Io;refine aD (qP ds d c (sG (by simpa only[hkD]using hk) c) r1 (by have:=jp c;omega) ?_);simp only[if_false,adg,Bool.not_true];exact Dl ⟨rfl,rfl,ds',_,λz g=>hsub z (Ge _ g),r2⟩
    .rintro⟨r1,r2⟩ b ⟨hr',rfl,_⟩;simp only at hr';subst hr';exact Dl h
 | .none,_,_,_,_,_,_,_,hk,_,_,_=>by simp only[hkD]at hk;cases hk
 | .bool _,_,_,_,_,_,_,_,hk,_,_,_=>by simp only[hkD]at hk;cases hk
 | .list _,_,_,_,_,_,_,_,hk,_,_,_=>by simp only[hkD]at hk;cases hk
 | .dict _,_,_,_,_,_,_,_,hk,_,_,_=>by simp only[hkD]at hk;cases hk
theorem qP:∀(ds:List dL) (d:dL),d∈ds->∀{A:aa6}{E:lD->mT->Prop}{s:mT}{v:lD}{as:List Addr}{n:Nat}{Q:Bool->mT->Prop},hkD d=true->Reads s.heap v d as->d.depth≤n->Q true s->wpAny (model prog w) A (eqIsQuiet n v) Q E s
 |x::ds,d,hm=>by
  intro b r a h;rcases aam.mp hm with e|c
  .rw[e]at b r a;exact lj x b r a h
  .exact qP ds d c b r a h
end
theorem ll{d:dL}(h:kyD d=true):hkD d=true:=by
 let⟨ds,rfl,a,_⟩:=iy h;simpa[hkD]
noncomputable def lu (prog:aaD) (w:World):HeapKind prog w dL where
 is:=λh d a=>(∃as,Reads h (.ref a) d as)/\kyD d=true
 hash:=d5 w
 draws:=jm
 room:=λA=>A.units+20<cLine
 inj:=λ{h a x y} ⟨⟨as,r1⟩,f⟩ ⟨⟨bs,g⟩,i⟩=>by
  let⟨ds,rfl,_,j,_⟩:=iy f;exact SeqAt.Reads.unique _ _ _ _ _ j r1 g
 keeps:=λ⟨⟨as,r⟩,k⟩ ho hd hs=>⟨⟨as,Reads.hkeep ho hd hs _ (ll k) r⟩,k⟩
 pyHash:=λ{A E s k a Q} n ⟨⟨as,r⟩,c⟩ h=>by
  let⟨ds,e,_,_,hd⟩:=iy c;exact lQ k (ll c) r (by omega) h
 eqBool:=λ{A E s x y a b Q} n ⟨⟨as,r1⟩,f⟩ ⟨⟨bs,g⟩,i⟩ h=>by
  let⟨ds,q,_,m,u⟩:=iy f;let⟨o,t,_,l,p⟩:=iy i;refine ahT x y A s _ _ _ _ r1 g m l (by omega) prog w E Q ?_;rw[oZ x y (ll f) (ll i)];exact h
 quiet:=λ{A E s k a Q} ⟨⟨as,r⟩,c⟩ h=>by
  let⟨ds,e,_,_,hd⟩:=iy c;exact lj k (ll c) r (by omega) h
end
noncomputable def dY(k:dL):List (dL×dL)->Option dL
 |[]=>none
 |(k',d)::r=>if aah k' k=true then some d else dY k r
noncomputable def putP(k d:dL):List (dL×dL)->List (dL×dL)
 |[]=>[(k,d)]
 |(k',d')::r=>if aah k' k=true then(k',d)::r else(k',d')::putP k d r
noncomputable def kyA(kvs:List (dL×dL)):Bool:=kvs.all λk=>kyD k.1
noncomputable def kdD:dL->Bool
 | .int _=>true
 | .str _=>true
 |_=>false
noncomputable def oneK(kvs:List (dL×dL))(k:dL):Bool:=(isKd kvs&&kdD k)||(kyA kvs&&kyD k)
def oh(kvs:List (dL×dL)):isKd kvs=kvs.all λk=>kdD k.1:=rfl
theorem oO{k:dL}(h:kdD k=true):∃kk:Key,k=keyD kk:=by
 cases k with
 |int i=>exact⟨.inl i,rfl⟩
 |str x=>exact⟨.inr x,rfl⟩
 |_=>cases h
def zY(a b:Key):aah (keyD a) (keyD b)=decide (a=b):=by
 cases a<;>cases b<;>simp[keyD,aah,aew]
noncomputable def IsDc(K:Kd)(H:Hp)(a:Addr)(kvs:List (dL×dL)):Prop:=
 (∃e,Rd H a (.dK e)/\DenKK K H kvs e)\/∃e,Rd H a (dX a e)/\isKd kvs=false/\(kvs.map (·.1)).Nodup/\DenKV K H kvs e
section
variable {K:Kd}{H a:Hp}
theorem fzKV{τ:List (List Nat×Addr)}{p:List Nat}:∀{kvs:List (dL×dL)}{i:Nat}{es:List (Int×V×V)},TAtD K H τ p i (lfKV kvs) es->DenKV K H kvs es
 |[],_,_,h=>by simpa[lfKV]
 |(k,d)::r,i,es,h=>by
  let⟨u,v,vs,rfl,c,g,b⟩:=h;exact⟨u,v,vs,rfl,c,jD g (w9 d),fzKV b⟩
theorem Mh{τ:List (List Nat×Addr)}{p:List Nat}:∀{kvs:List (dL×dL)}{i:Nat}{es:List (Int×V×V)},DenKV K H kvs es->TAtD K H τ p i (lfKV kvs) es
 |[],_,_,h=>by simpa only[lfKV]
 |_::r,i,es,h=>by
  let⟨u,v,vs,rfl,c,g,b⟩:=h;exact⟨u,v,vs,rfl,c,xQ g,Mh b⟩
def iu(kvs:List (dL×dL)):(lfKV kvs).map (·.1)=kvs.map (·.1):=by
 unfold lfKV;rw[abc];rfl
def km(kvs:List (dL×dL)):isKd (lfKV kvs)=isKd kvs:=by
 unfold isKd lfKV;rw[adJ];rfl
theorem lH(h:isKd kvs=true\/kyA kvs=true):fzOf kvs=none/\excC kvs=none:=by
 cases kvs with
 |nil=>exact⟨rfl,rfl⟩
 | cons x r=>
  let⟨k,d⟩:=x
  cases k with
  |none=>
   rcases h with h|h
   .simp[isKd]at h
   .simp[kyA,kyD]at h
  |int _=>exact⟨rfl,rfl⟩
  |str _=>exact⟨rfl,rfl⟩
  |bool _=>exact⟨rfl,rfl⟩
  |list _=>exact⟨rfl,rfl⟩
  |tuple _=>exact⟨rfl,rfl⟩
  |dict _=>exact⟨rfl,rfl⟩
end
noncomputable def dcM(m:MSt)(kvs:List (dL×dL)):R->Prop
 | .imm (.dict es)=>es=kvs
 | .at k p=>p=p/\ndT m k p=some (.dict (lfKV kvs))
 |_=>False
theorem RelR.dc{K:Kx}{m:MSt}{z:Hp}{r:R}(R:Rel K α m σ H)(h:RelR K α z H r v)(e:dcM m kvs r)(l:isKd kvs=true\/kyA kvs=true):∃a,v = .ref a/\IsDc K H a kvs:=by
 let⟨n1,n2⟩:=lH l
 cases r with
 | imm d=>
  cases d with
  |dict j=>
   have A:j=kvs:=e;subst A;have q:Den K H (.dict j) v:=h;simp only[Den]at q;let⟨a,rfl,q⟩:=q;refine⟨a,rfl,?_⟩;rcases q with⟨x,⟨o,f⟩,n,g⟩|⟨x,o,f,g⟩|⟨c,x,t,_⟩
   .exact .inr ⟨x,.inr ⟨o,f⟩,n.1,n.2.1,g⟩
   .exact .inl ⟨x,.inr ⟨o,f⟩,g⟩
   .rw[n2]at t;cases t
  |none=>exact e.elim
  |bool _=>exact e.elim
  |int _=>exact e.elim
  |str _=>exact e.elim
  |list _=>exact e.elim
  |tuple _=>exact e.elim
 | «at» k p=>
  let⟨E,a,D,_,u,rfl,g⟩:=RelR.node R h e.2;refine⟨a,rfl,?_⟩;have y:=lH (by
   rcases l with l|l
   .exact .inl (by rw[km];exact l)
   .refine .inr ?_;unfold kyA lfKV at *;rw[adJ];exact l)
  simp only[TAt]at g;rcases g with⟨d,i,_⟩|⟨_,_,b,j,i,B,s,n,g⟩|⟨_,_,b,j,i,B,s,g⟩|⟨c,b,dx,C,x,w,_⟩
  .rw[y.1]at i;cases i
  .rw[u]at i;cases i;exact .inr ⟨j,.inl s,by rw[<-km];exact n.1,by rw[<-iu];exact n.2.1,fzKV g⟩
  .rw[u]at i;cases i;exact .inl ⟨j,.inl s,fzKK g⟩
  .rw[y.2]at w;cases w
 |obj _=>exact e.elim
 |new _=>exact e.elim
 |newT _=>exact e.elim
theorem DenKV.len{K:Kd}{H:Hp}:∀{kvs:List (dL×dL)}{es:List (Int×V×V)},DenKV K H kvs es->kvs.length=es.length
 |[],_,g=>by simp[DenKV]at g;subst g;rfl
 |_::r,_,g=>by
  let⟨u,v,vs,rfl,_,_,g⟩:=g;simp[DenKV.len g]
section
variable {X:Cx}{pins:List (Addr×Obj)}{σ:St}{H:Hp}{s:mT}
noncomputable abbrev PxV(K:Kd)(H:Hp):List (dL×dL)->List (dL×Addr×lD)->Prop:=abJ λp q=>p.1=q.1/\Den K H p.1 (.ref q.2.1)/\∃v,Den K H p.2 v/\RelV v q.2.2
theorem PxV.keys{H:Hp}{xs:List (dL×Addr×lD)}(p:PxV K H kvs xs):xs.map (·.1)=kvs.map (·.1):=by
 induction p with
 |nil=>rfl
 |cons h t i=>rw[aar,aar,i,h.1]
theorem uf{k:dL}{u:V}(c:kyD k=true)(h:Den K H k u):∃b,u = .ref b:=by
 let⟨ds,rfl,_⟩:=iy c;let⟨a,x,e,_⟩:=h;exact⟨a,e⟩
theorem yK{k:dL}(h:kyD k=true):k.hasDict=false:=by
 let⟨ds,rfl,_,a,_⟩:=iy h;exact abe _ a
def Inv.ky(I:Inv X pins σ H s){k:dL}{b:Addr}(a:kyD k=true)(h:Den X.kd H k (.ref b)):(lu X.prog X.w).is s.heap k b:=⟨h.reads I (yK a) (rfl),a⟩
noncomputable abbrev ExV(w:World):List (Int×V×V)->List (dL×Addr×lD)->Prop:=abJ λe q=>e.1=d5 w q.1/\e.2.1 = .ref q.2.1/\RelV e.2.2 q.2.2
theorem Inv.dcE(I:Inv X pins σ H s){es:List (Int×V×V)}(D:Rd H a (dX a es))(g:DenKV X.kd H kvs es)(nd:(kvs.map (·.1)).Nodup)(f:kyA kvs=true):(a==abv)=false/\es.length≤aad/\∃xs,s.heap.DictOfH (lu X.prog X.w) a xs/\PxV X.kd H kvs xs/\ExV X.w es xs:=by
 let⟨⟨hs,N,o,c,K,F,C,Q,S⟩,_⟩:=(show ObjOk X.prog X.w H s.heap a (dX a es)from D.ok I.hok);have key:∀{kvs:List (dL×dL)}{es:List (Int×V×V)}{c:List ab9},kyA kvs=true->DenKV X.kd H kvs es->abJ (λ(e:Int×V×V) (d:ab9)=>d.hash=e.1/\RelV e.2.1 d.key/\RelV e.2.2 d.val) es c->∃xs,c=xs.map (entryOfKey (lu X.prog X.w))/\PxV X.kd H kvs xs/\ExV X.w es xs:=by
  intro kvs
  induction kvs with
  |nil=>
   intro es c _ g p;simp only[DenKV]at g;subst g;cases p;exact⟨[],rfl,.nil,.nil⟩
  | cons x r w=>
   intro es c f g p;let⟨k,d⟩:=x;rw[kyA,acK,aaT]at f;simp only[DenKV]at g;let⟨u,v,vs,rfl,z,P,R⟩:=g
   cases p with
   |cons O J=>
    rename_i E l;let⟨xs,n,j,y⟩:=w f.2 R J;let⟨b,rfl⟩:=uf f.1 z;let⟨G,L,B⟩:=O;let⟨A,M,m⟩:=E
    cases (show M=adq b from L)
    refine⟨(k,b,m)::xs,?_,.cons ⟨rfl,z,v,P,B⟩ j,.cons ⟨rfl,rfl,B⟩ y⟩;rw[aar,<-n]
    congr 1
    show ab9.mk A (.ref b) m=⟨d5 X.w k,.ref b,m⟩;rw[show A=d5 X.w k from G]
 let⟨xs,n,j,y⟩:=key f g S;refine⟨hs,N,xs,⟨o,c,K,F,C,Q,n,λx i=>?_,by rw[j.keys];exact nd⟩,j,y⟩;have all:∀{kvs:List (dL×dL)}{xs:List (dL×Addr×lD)},kyA kvs=true->PxV X.kd H kvs xs->∀x∈xs,(lu X.prog X.w).is s.heap x.1 x.2.1:=by
  intro kvs xs f p
  induction p with
  |nil=>intro x i;cases i
  | @cons q x0 qs xs0 h t w=>
   rw[kyA,acK,aaT]at f;intro x i;obtain rfl|i:=aam.mp i
   .rw[<-h.1];exact I.ky f.1 h.2.1
   .exact w f.2 x i
 exact all f j x i
theorem Inv.dc0(I:Inv X pins σ H s)(r:Rd H a (.dK [])):(a==abv)=false/\s.heap.DictOfH (lu X.prog X.w) a []:=by
 let⟨_,hs,vs,k,d⟩:=vM I.hok r;cases k;let⟨o,e,c,g,h,i,j⟩:=d;refine⟨hs,o,e,c,g,h,i,?_,⟨(λx f=>absurd f (by simp)),adC⟩⟩;have b:e.toList=[]:=by
  let⟨_,hp,_⟩:=j;exact abh (by have:=hp.length;simpa)
 rw[b];rfl
theorem O7(g:DenKK K H kvs es)(a:kyA kvs=true):kvs=[]/\es=[]:=by
 cases kvs with
 |nil=>simp[DenKK]at g;exact⟨rfl,g⟩
 |cons x r=>
  let⟨k,d⟩:=x;let⟨b,v,vs,_,⟨e,_⟩,_⟩:=g;rw[kyA,acK,aaT]at a;have h:kyD k=true:=a.1;rw[e]at h
  cases b<;>cases h
theorem Inv.dcX(I:Inv X pins σ H s)(h:IsDc X.kd H a kvs)(b:kyA kvs=true):(a==abv)=false/\∃xs,s.heap.DictOfH (lu X.prog X.w) a xs/\PxV X.kd H kvs xs:=by
 rcases h with⟨e,r,g⟩|⟨e,r,_,nd,g⟩
 .obtain⟨rfl,rfl⟩:=O7 g b;let⟨hs,d⟩:=I.dc0 r;exact⟨hs,[],d,.nil⟩
 .obtain⟨hs,_,xs,d,p,_⟩:=I.dcE r g nd b;exact⟨hs,xs,d,p⟩
theorem PxV.val{xs:List (dL×Addr×lD)}{k:dL}(c:kyA kvs=true)(f:kyD k=true)(p:PxV K H kvs xs) :
  (dY k kvs=none/\atKey xs k=none)\/∃d v q,dY k kvs=some d/\atKey xs k=some q/\Den K H d v/\RelV v q.2:=by
 induction p with
 |nil=>exact(.inl ⟨rfl,rfl⟩)
 | @cons x q xs0 qs h t ih=>
  rw[kyA,acK,aaT]at c;let⟨i,d⟩:=x;let⟨j,n,v,l,m⟩:=h;have a:i=q.1:=j;have g:=oZ _ _ (ll c.1) (ll f);unfold dY
  by_cases e:i=k
  .have b:atKey (q::qs) k=some q.2:=by simp[atKey,List.find?_cons,<-a,e]
   rw[g,decide_eq_true e,if_pos rfl];exact .inr ⟨d,v,q.2,rfl,b,l,m⟩
  .have b:atKey (q::qs) k=atKey qs k:=by simp[atKey,<-a,e]
   rw[g,decide_eq_false e,b];exact ih c.2
theorem DenKK.val(g:DenKK K H kvs es) :
  (dY (keyD kk) kvs=none/\valV es kk=none)\/∃d v,dY (keyD kk) kvs=some d/\valV es kk=some v/\Den K H d v:=by
 induction kvs generalizing es with
 |nil=>simp[DenKK]at g;subst g;exact .inl ⟨rfl,rfl⟩
 |cons x r i=>
  let⟨k,d⟩:=x;let⟨b,v,vs,rfl,⟨rfl,_⟩,c,a⟩:=g;unfold dY;rw[zY]
  by_cases e:b=kk
  .rw[decide_eq_true e];exact .inr ⟨d,v,rfl,jM e,c⟩
  .rw[decide_eq_false e,jH e];exact i a
def DGet.kr{H:Hp}{kvs:List (Key×V)}{k:Key}(e:Rd H a (.dK kvs)):DGet H a (kV k) (valV kvs k):=.inl ⟨kvs,k,e,rfl,rfl⟩
theorem m9{k:dL}(h:oneK kvs k=true):(isKd kvs=true/\kdD k=true)\/(kyA kvs=true/\kyD k=true):=by
 unfold oneK at h
 simp_all
theorem Inv.dcT(I:Inv X pins σ H s)(h:IsDc X.kd H a kvs):s.TypeIs (.ref a) "dict"/\∀b,adq a = .ref b->∃c,s.heap.get? b=some c/\c.dict=none:=by
 rcases h with⟨d,r,g⟩|⟨d,r,_,nd,g⟩
 .obtain⟨_,hs,vs,kv,o,_,_,h1,h2,_⟩:=vM I.hok r;exact⟨⟨o,h1,h2.1⟩,λb e=>by cases e;exact⟨o,h1,h2.2.1⟩⟩
 .obtain⟨⟨hs,hz,o,ents,ep,h1,h2,h3,h4⟩,_⟩:=(r.ok I.hok);exact⟨⟨o,h1,h2.1⟩,λb e=>by cases e;exact⟨o,h1,h2.2.1⟩⟩
theorem yj(h:Den K H (keyD kk) y):y=kV kk:=by
 cases kk with
 |inl i=>exact aM h
 |inr x=>exact bx h
section
variable {a:Addr}{kvs:List (dL×dL)}{k:dL}{y z:V}{u c:lD}{A:aa6}{E:lD->mT->Prop}
theorem Jv(G:A.units+64<cLine)(I:Inv X pins σ H s)(h:IsDc X.kd H a kvs)(ok:oneK kvs k=true)(l:Den X.kd H k y)(B:RelV y u)(n:RelV z c)
  (fin:∀v w s',Inv X pins σ H s'->RelV v w->((∃d,dY k kvs=some d/\Den X.kd H d v)\/(dY k kvs=none/\v=z))->Q w s'):wpAny (model X.prog X.w) A (call (.builtin "dict.get") [.ref a,u,c]) Q E s:=by
 have t:=(I.dcT h).1;rcases m9 ok with⟨j,o⟩|⟨j,o⟩
 .obtain⟨kk,rfl⟩:=oO o;have F:=yj l;subst F;rcases h with⟨C,x,g⟩|⟨C,x,kd,nd,g⟩
  .obtain⟨z0,hd,vs,rel,dd⟩:=vM I.hok x;refine ahF aey t agp (af7 _ _ _) (meets_dict_get_default (cj X.prog X.w) a (BH B) hd c) ⟨_,dd.mapOf,?_⟩;have r:=rel.val kk;rcases g.val (kk:=kk)with⟨f,e⟩|⟨d,v,f,e,m⟩
   .rw[e]at r;have i:afj vs kk=none:=RelO.none_of r;show Q ((afj vs kk).getD c) _;rw[i];exact fin z c _ (I.tok _) n (.inr ⟨f,rfl⟩)
   .rw[e]at r;let⟨w,i,D⟩:=RelO.some_of r;show Q ((afj vs kk).getD c) _;rw[i];exact fin v w _ (I.tok _) D (.inl ⟨d,f,m⟩)
  .rw[j]at kd;cases kd
 .obtain⟨hs,xs,dd,p⟩:=I.dcX h j;let⟨b,rfl⟩:=uf o l
  cases (show u=adq b from B)
  refine ahF aey t agp (af7 _ _ _) (meetsH_dict_get_default (lu X.prog X.w) a b hs c) ⟨(by show A.units+1+20<cLine;omega),k,xs,I.ky o l,dd,?_⟩;rcases p.val j o with⟨f,e⟩|⟨d,v,q,f,e,m,i⟩
  .rw[e];exact fin z c _ (I.tok _) n (.inr ⟨f,rfl⟩)
  .rw[e];exact fin v q.2 _ (I.tok _) i (.inl ⟨d,f,m⟩)
theorem vV{d:dL}(G:A.units+64<cLine)(I:Inv X pins σ H s)(h:IsDc X.kd H a kvs)(ok:oneK kvs k=true)(l:Den X.kd H k y)(t:RelV y u)(i:dY k kvs=some d)
  (fin:∀v w s',Inv X pins σ H s'->RelV v w->Den X.kd H d v->Q w s'):wpAny (model X.prog X.w) A (aeO (.ref a) u) Q E s:=by
 rcases m9 ok with⟨j,o⟩|⟨j,o⟩
 .obtain⟨kk,rfl⟩:=oO o;have B:=yj l;subst B;rcases h with⟨x,n,g⟩|⟨x,n,kd,nd,g⟩
  .rcases g.val (kk:=kk)with⟨e,f⟩|⟨D,v,e,f,m⟩
   .rw[i]at e;cases e
   .rw[i]at e;cases e;exact xR (by omega) I (by rw[<-f];exact DGet.kr n) t λw s' C r=>fin v w s' C r m
  .rw[j]at kd;cases kd
 .obtain⟨hs,xs,dd,p⟩:=I.dcX h j;let⟨b,rfl⟩:=uf o l
  cases (show u=adq b from t)
  rcases p.val j o with⟨e,f⟩|⟨D,v,q,e,f,m,F⟩
  .rw[i]at e;cases e
  .rw[i]at e;cases e;exact wpAny_getItem_heap (knd:=lu X.prog X.w) (by show A.units+1+20<cLine;omega) (I.ky o l) dd f (fin v q.2 _ (I.tok _) F m)
end
end
section
variable {X:Cx}{a:Expr}{w:WE}{pos:Pos}
noncomputable abbrev LJ:WE:=λm K=>K (.newT (.dict [])) m
theorem JU:ME X (.Dict [] [] pos) LJ:=pe_dnewK.wk<|by
 intro c H Q ⟨d,m,K,R,h,fin⟩;intro p hp;refine fin _ m _ _ h rfl (R.lay hp) ⟨[([],p)],p,rfl,rfl,by simp,λb hb=>by simp at hb;subst hb;exact hp,⟨⟨_,.ref p,rfl,?_,p,rfl,rfl⟩,λb hb=>by simp at hb;subst hb;exact⟨_,ay,rfl⟩⟩⟩ (cz hp);refine .inr (.inr (.inl ⟨rfl,rfl,p,[],rfl,rfl,ay,?_⟩));rfl
def ol:EE X (.Dict [] [] pos) LJ:=⟨JU⟩
end
section
variable {X:Cx}{o e g:Expr}{es:List Expr}{w:WE}{f:WA}{b c:Pos}
noncomputable def ON(K:Kd)(to:TE)(t:TA):TE:=λm H Q=>to m H λx l=>∃a i,x = .ref a/\IsDc K l a i/\t m l λn j=>∃h k y z,n=[y,z]/\IsDc K j a h/\oneK h k=true/\Den K j k y/\∀v,((∃d,dY k h=some d/\Den K j d v)\/(dY k h=none/\v=z))->Q v j
theorem BG{to:TE}{t:TA}(N:X.A.units+64<cLine)(ho:PE X o to)(ha:PA X (e::es) t)
  (d:abz o "get" X.env (eval o X.env)=eval o X.env:=by rfl)
  (j:((acg c (aac (e::es) X.env)).all (λx=>!x.1)&&(afq c (adB [] X.env)).all (λx=>x.1.isSome)
   && decide ((e::es).length+([]:List ade).length+(if ([]:List ade).isEmpty then 0 else 1)<30))=true:=by rfl)
  (i:(b.endLine==c.line)=true:=by rfl) (hs:aac (e::es) X.env=(false,eval e X.env)::aac es X.env:=by rfl) (l:(acg c (aac es X.env)).any (·.1)=false:=by rfl) :
  PE X (.Call (.Attribute o "get" b) (e::es) [] c) (ON X.kd to t):=by
 intro p s n H Q I h;refine agl d j i rfl (thn (ho p s n H _ I h) λv s1 ⟨x,K,A,r1,q⟩=>?_);let⟨a,u,rfl,dc0,q⟩:=q;cases (r1);let⟨G,C⟩:=A.dcT dc0;refine⟨"dict","dict.get",aef,aey,PySem.F.type_dict_get,G,C,?_⟩;have m:=ha c p s1 n K _ A q;rw[hs]at m⊢;refine adf ‹_› (agK ?_);refine thn m λT s2 ⟨vs,L,J,r,O⟩=>?_;let⟨M,k,y,z,rfl,dc,ok,F,fin⟩:=O
 cases r with
 | cons P r=>
  cases r with
  |cons B r=>
   cases r;exact Jv N J dc ok F P B λv U S E R D=>⟨v,L,E,R,fin v D⟩
noncomputable abbrev DN(w:WE)(f:WA):WE:=λm K=>w m λr m1=>∃a,dcM m1 a r/\(isKd a=true\/kyA a=true)/\f m1 λrs m2=>∃d k z,rs=[.imm k,.imm z]/\dcM m2 d r/\oneK d k=true/\K (.imm ((dY k d).getD z)) m2
theorem AW(L:X.A.units+64<cLine)(ho:ME X o w)(ha:MA X (e::es) f)
  (j:abz o "get" X.env (eval o X.env)=eval o X.env:=by rfl)
  (p:((acg c (aac (e::es) X.env)).all (λx=>!x.1)&&(afq c (adB [] X.env)).all (λx=>x.1.isSome)
   && decide ((e::es).length+([]:List ade).length+(if ([]:List ade).isEmpty then 0 else 1)<30))=true:=by rfl)
  (l:(b.endLine==c.line)=true:=by rfl) (hs:aac (e::es) X.env=(false,eval e X.env)::aac es X.env:=by first|exact ba rfl|rfl) (i:(acg c (aac es X.env)).any (·.1)=false:=by rfl) :
  ME X (.Call (.Attribute o "get" b) (e::es) [] c) (DN w f):=(BG L ho ha j p l hs i).wk<|by
 intro U H Q ⟨y,m,V,A,O,fin⟩;refine⟨y,m,_,A,O,λr m1 v T k n1 R rr I=>?_⟩;let⟨s,E,B,k⟩:=k;let⟨a,rfl,dc0⟩:=RelR.dc R rr E B;refine⟨a,s,rfl,dc0,y,m1,_,R,k,λrs m2 vs J u n2 q h F=>?_⟩;let⟨n,K,z,rfl,G,ok,u⟩:=u;have D:isKd n=true\/kyA n=true:=by
  rcases m9 ok with z|z
  .exact .inl z.1
  .exact .inr z.1
 let⟨S,N,dc⟩:=RelR.dc q (rr.keep A R F) G D;cases N
 cases h with
 | cons P h=>
  cases h with
  |cons M h=>
   cases h;refine⟨n,K,_,_,rfl,dc,ok,P,λv C=>fin _ m2 v J u (n2.trans n1) q ?_ (I.trans F)⟩;rcases C with⟨d,t,hd⟩|⟨t,rfl⟩
   .rw[t];exact hd
   .rw[t];exact M
theorem jR(j:X.A.units+64<cLine)(ho:EE X o w)(ha:EA X (e::es) f)
  (a:abz o "get" X.env (eval o X.env)=eval o X.env:=by rfl)
  (i:((acg c (aac (e::es) X.env)).all (λx=>!x.1)&&(afq c (adB [] X.env)).all (λx=>x.1.isSome)
   && decide ((e::es).length+([]:List ade).length+(if ([]:List ade).isEmpty then 0 else 1)<30))=true:=by rfl)
  (d:(b.endLine==c.line)=true:=by rfl) (hs:aac (e::es) X.env=(false,eval e X.env)::aac es X.env:=by first|exact ba rfl|rfl) (h:(acg c (aac es X.env)).any (·.1)=false:=by rfl) :
  EE X (.Call (.Attribute o "get" b) (e::es) [] c) (DN w f):=⟨AW j ho.h ha.h a i d hs h⟩
end
end L2
namespace L2
open PySem PySem.Spec PyProof.Rows
open Sem (wp)
noncomputable def QC(K:Kd)(to ti:TE):TE:=λe H Q=>to e H λx f=>ti e f λy c=>∃a b k d,x = .ref a/\IsDc K c a b/\oneK b k=true/\Den K c k y/\dY k b=some d/\∀v,Den K c d v->Q v c
section
variable {X:Cx}{o i:Expr}{w b:WE}{pos:Pos}{to ti:TE}
def Ii(t:X.A.units+64<cLine)(ho:PE X o to)(hi:PE X i ti)(hs:NoSl i):PE X (.Subscript o i pos) (QC X.kd to ti):=by
 intro p s e H Q I h;refine GA PySem.F.slot_dict_getitem.lookup hs (thn (ho p s e H _ I h) λu s1 ⟨x,l,B,r,q⟩=>thn (hi p s1 e l _ B q) λF s2 ⟨y,m,c,A,a,n,k,d,ex,dc,ok,g,j,z⟩=>?_);subst ex;obtain rfl:u=adq a:=r;exact⟨(c.dcT dc).1,vV t c dc ok g A j λv E D f C hd=>⟨v,m,f,C,z v hd⟩⟩
noncomputable abbrev PC(w b:WE):WE:=λm K=>w m λr m1=>b m1 λc m2=>i7 (λk=>∃a d,dcM m2 a r/\oneK a k=true/\dY k a=some d/\K (.imm d) m2) c
theorem H9(s:X.A.units+64<cLine)(ho:ME X o w)(hi:ME X i b)(hs:NoSl i:=by intro _ _;rfl):ME X (.Subscript o i pos) (PC w b):=(Ii s ho hi hs).wk<|by
 intro D H Q ⟨h,m,K,j,x,fin⟩;refine⟨h,m,_,j,x,λy m1 B C u n1 R f p=>⟨h,m1,_,R,u,λE m2 A q g n2 c r F=>?_⟩⟩;let⟨k,rfl,l,e,d,n,ok,t,g⟩:=fE r g;let⟨a,rfl,dc⟩:=RelR.dc c (f.keep j R F) n (by
  rcases m9 ok with z|z
  .exact .inl z.1
  .exact .inr z.1)
 exact⟨a,e,k,d,rfl,dc,ok,l,t,λv hd=>fin _ m2 v q g (n2.trans n1) c hd (p.trans F)⟩
theorem Bx(h:X.A.units+64<cLine)(ho:EE X o w)(hi:EE X i b)(hs:NoSl i:=by intro _ _;rfl):EE X (.Subscript o i pos) (PC w b):=⟨H9 h ho.h hi.h hs⟩
end
end L2
set_option maxHeartbeats 1100000
namespace L2
open PySem PySem.Spec PyProof.Rows
open Sem (wp)
variable{Q:lD->mT->Prop}{H:Hp}{a:Addr}{o:Obj}{es:List (V×V)}{w:World}{K:Kd}{kvs:List (dL×dL)}{P:List (dL×dL)->Prop}
structure EntAt(h:aaX)(d:Addr)(es:Array ab9)(ep:Nat):Prop where
 ex:∃o,h.get? d=some o/\o.ExactDict/\o.data = .dict es ep
section
variable {prog:aaD}{w:World}{A:aa6}{E:lD->mT->Prop}{s:mT}{it d:Addr}{es:Array ab9}{i ep:Nat}{ok ov:lD}
def qc{Q:String->mT->Prop}(b:s.TypeIs (.ref it) "dict_itemiterator")(h:Q "dict_itemiterator" s):wpAny (model prog w) A (typeNameOfWhole (.ref it)) Q E s:=wpAny_typeNameOfWhole_itemiter b h
def vQ{j n:Nat}{k v:lD}(h:acE s.heap it d j n ep ok ov)
  (S:∀h',afS h' it d j n ep k v s.heap.objs.size->h'.get? s.heap.objs.size=some {cls:=.type "tuple",data:=.seq #[k,v]}->h'.objs.size=s.heap.objs.size+1 ->
   (∀b o,b≠it->s.heap.get? b=some o->h'.get? b=some o)->Q (.ref s.heap.objs.size) {s with heap:=h' }):wpAny (model prog w) A (ab6 (.ref it) 6 k v) Q E s:=by
 have lt:it<s.heap.objs.size:=OR h;rcases s with⟨hp,g,M,J,os⟩;refine aD (m:=newTuple [k,v]) (afv ?_);have F:(hp.push {cls:=.type "tuple",data:=.seq #[k,v]}).objs.size=hp.objs.size+1:=abx ..;have C:(hp.push {cls:=.type "tuple",data:=.seq #[k,v]}).get? hp.objs.size=some {cls:=.type "tuple",data:=.seq #[k,v]}:=aaa _ rfl;have l:∀b o,hp.get? b=some o->(hp.push {cls:=.type "tuple",data:=.seq #[k,v]}).get? b=some o:=λb o q=>AD _ q;have e:acE (hp.push {cls:=.type "tuple",data:=.seq #[k,v]}) it d j n ep ok ov:=l _ _ h;show wpAny _ _ (abW (.ref it) >>= _) _ _ ⟨hp.push {cls:=.type "tuple",data:=.seq #[k,v]},g,M,J,os⟩;generalize hp.push {cls:=.type "tuple",data:=.seq #[k,v]}=z at F C l e;refine aD (m:=abW (.ref it)) ?_;refine aD (m:=field (.ref it) 0) (aba e rfl (x:=.none) rfl (Dl ?_));refine aD (m:=field (.ref it) 6) (aba e rfl (x:=ok) rfl (aD (m:=field (.ref it) 7) (aba e rfl (x:=ov) rfl ?_)));refine aD (m:=acQ (.ref it) 6 k) (aat e (by simp) λI L s1=>?_);have p:acE I it d j n ep k ov:=L;refine aD (m:=acQ (.ref it) 7 v) (aat p (by simp) λT U s2=>?_);have t:acE T it d j n ep k v:=U;refine aD (m:=acQ (.ref it) 0 (adj hp.objs.size)) (aat t (by simp) λO R D=>?_);have r:afS O it d j n ep k v hp.objs.size:=R;refine aD (m:=acQ (.ref it) 1 (.bool false)) (aat r (by simp) λf N B=>?_);have u:afS f it d j n ep k v hp.objs.size:=N;have y:∀b o,b≠it->z.get? b=some o->f.get? b=some o:=λb o c q=>B.extBut b o c (D.extBut b o c (s2.extBut b o c (s1.extBut b o c q)));have G:f.objs.size=z.objs.size:=by rw[B.1,D.1,s2.1,s1.1]
 exact aD (m:=letGo _ _) (afK (Dl (S f u (y _ _ (aaY lt) C) (G.trans F) λb o c q=>y b o c (l b o q))))
def qK{Q:Option lD->mT->Prop}(h:acE s.heap it d i es.size ep ok ov)(x:EntAt s.heap d es ep)(hi:i<es.size)
  (v:∀h',afS h' it d (i+1) es.size ep es[i].key es[i].val s.heap.objs.size->h'.get? s.heap.objs.size=some {cls:=.type "tuple",data:=.seq #[es[i].key,es[i].val]}->h'.objs.size=s.heap.objs.size+1 ->
   (∀b o,b≠it->s.heap.get? b=some o->h'.get? b=some o)->Q (some (.ref s.heap.objs.size)) {s with heap:=h' }):wpAny (model prog w) A (ach (.ref it)) Q E s:=by
 let⟨G,e,y,j⟩:=x.ex;have c:s.TypeIs (.ref it) "dict_itemiterator":=(⟨_,h,rfl⟩);have own:aa8 "dict_itemiterator" = true:=by decide
 unfold ach;refine aD (ab3 (aaF (name:=abY "__next__") c aa1 (aaJ aa1 c acm ?_ (ace _))))
 wp_walk using qc c,adE h rfl,abP e j,acd e j,abd c
 have B:(if (i:Int)<0 then none else es[((i:Nat):Int).toNat]?)=some es[i]:=by
  rw[if_neg (by omega),aaM,abu hi]
 rw[B];rcases s with⟨hp,g,r,t,os⟩;refine aD ?_;refine aD (qc c (Dl ?_));refine aD (m:=afz _ _) (abd c ?_);show wpAny _ _ (acQ (.ref it) 3 (adj ((i:Int)+1)) >>= _) _ _ _;refine aD (aat h (by simp) λf C s1=>?_);replace s1:abk it hp f:=s1;have k:acE f it d (i+1) es.size ep ok ov:=by
  have q:((i+1:Nat):Int)=(i:Int)+1:=rfl;unfold acE;rw[q];simpa[adj]using C
 have T:aeQ ⟨f,g,r,t,os⟩ (.ref it) "dict_itemiterator":=(⟨_,k,rfl⟩);refine aD (abI (aD (abd T (aD (abd T ?_)))));show wpAny _ _ (ab6 (.ref it) 6 es[i].key es[i].val) _ _ ⟨f,g,r,t,os⟩;have F:f.objs.size=hp.objs.size:=s1.1;refine vQ k λu l p z D=>?_;rw[F]at l p z⊢;exact Dl ⟨_,rfl,Dl (v u l p z λb o n q=>D b o n (s1.extBut b o n q))⟩
def ql{Q:Option lD->mT->Prop}(l:A.handled=none)(h:acE s.heap it d i es.size ep ok ov)(u:EntAt s.heap d es ep)(hi:es.size≤i)
  (k:∀h',(∀b o,b≠it->s.heap.get? b=some o->h'.get? b=some o)->Q none {s with heap:=h' }):wpAny (model prog w) A (ach (.ref it)) Q E s:=by
 let⟨B,f,v,g⟩:=u.ex;have c:s.TypeIs (.ref it) "dict_itemiterator":=(⟨_,h,rfl⟩);have own:aa8 "dict_itemiterator" = true:=by decide
 unfold ach;refine aD (ab3 (aaF (name:=abY "__next__") c aa1 (aaJ aa1 c acm ?_ (ace _))))
 wp_walk using qc c,adE h rfl,abP f g,acd f g,abd c
 have x:(if (i:Int)<0 then none else es[((i:Nat):Int).toNat]?)=none:=by
  rw[if_neg (by omega),aaM,aeq hi]
 rw[x];refine aD (aD (qc c (Dl ?_)));refine aD (m:=acQ (.ref it) 2 .none) (aat h (by simp) λz C s1=>?_);refine jE l λj e y ⟨t,r,n⟩=>?_;exact aD (ack (T:= "StopIteration") (b:=true) ⟨t,r,n⟩ ael (Dl (k j λb o p q=>y b o (s1.extBut b o p q))))
theorem EntAt.keep{h h':aaX}(x:EntAt h d es ep)(k:∀o,h.get? d=some o->h'.get? d=some o):EntAt h' d es ep:=let ⟨o,a,b,c⟩:=x.ex;⟨o,k o a,b,c⟩
theorem EntAt.ty(x:EntAt s.heap d es ep):s.TypeIs (.ref d) "dict":=let ⟨o,a,b,_⟩:=x.ex;⟨o,a,b.1⟩
def lP(hd:(d==abv)=false)(b:EntAt s.heap d es ep)(h:Q (.ref s.heap.objs.size) {s with heap:=s.heap.push {cls:=.type "dict_items",data:=.fields #[.ref d]} }):wpAny (model prog w) A (call (.builtin "dict.items") [.ref d]) Q E s:=by
 refine ahF (S:=λ_ R s=>EntAt s.heap d es ep/\R (.ok (.ret (.ref s.heap.objs.size))) {s with heap:=s.heap.push {cls:=.type "dict_items",data:=.fields #[.ref d]} }) aeg b.ty PySem.F.entry_dict_items (PySem.F.args_dict_items_1 _) (.of_wp λA R s ⟨c,h⟩=>?_) ⟨b,h⟩;refine aD (aD (aez c.ty ?_));refine Dl ?_;refine aD ?_;unfold aeA;rw[hd];exact Dl (aD (aaV (Dl ⟨_,rfl,h⟩)))
def vY{v:Addr}(e:s.heap.get? v=some {cls:=.type "dict_items",data:=.fields #[.ref d]})(j:EntAt s.heap d es ep)
  (g:∀h',acE h' s.heap.objs.size d 0 es.size ep .none .none->(∀b o,s.heap.get? b=some o->h'.get? b=some o)->Q (.ref s.heap.objs.size) {s with heap:=h' }):wpAny (model prog w) A (ae4 (.ref v)) Q E s:=by
 let⟨l,h,k,c⟩:=j.ex;have f:s.TypeIs (.ref v) "dict_items":=(⟨_,e,rfl⟩);have own:aa8 "dict_itemiterator" = true:=by decide
 refine aer f acF (aaJ acF f aeX ?_ (aeH _));refine aD (Dl (aD (aD (aba e rfl (x:=.ref d) rfl (Dl (aD (aD (abP h c (aD (acd h c ?_))))))))));simp only[own,if_true];refine aaV (Dl ⟨_,rfl,"dict_itemiterator",_,⟨_,aaa _ rfl,rfl⟩,acL.lookup,?_⟩) (by simp only[sizeOk,adX,aav,aaj,aaG,agy,aag];decide);exact g _ (aaa _ rfl) λb o q=>AD _ q
structure sj(h:aaX)(it d:Addr)(i n ep:Nat):Prop where
 e:h.get? it=some {cls:=.type "dict_keyiterator",data:=.fields #[.ref d,.int i 0,.int n 0,.int ep 0]}
def zF(hd:(d==abv)=false)(e:EntAt s.heap d es ep)
  (g:∀h',sj h' s.heap.objs.size d 0 es.size ep->(∀b o,s.heap.get? b=some o->h'.get? b=some o)->Q (.ref s.heap.objs.size) {s with heap:=h' }):wpAny (model prog w) A (ae4 (.ref d)) Q E s:=by
 let⟨j,c,f,h⟩:=e.ex;refine aer e.ty agq (aaJ agq e.ty PySem.F.entry_dict_iter ?_ (PySem.F.args_dict_iter_1 _));unfold ac8.«dict.__iter__» ac8.Dict.dictSlotNone;refine aD (aD (aez e.ty (Dl ?_)));refine aD (m:=aeA d) ?_;unfold aeA;rw[hd];refine Dl (aD (abP c h (aD (acd c h ?_))));refine aD (aaV (Dl ⟨_,rfl,"dict_keyiterator",_,⟨_,aaa _ rfl,rfl⟩,abw.lookup,?_⟩));exact g _ ⟨aaa _ rfl⟩ λb o q=>AD _ q
def Cn{Q:String->mT->Prop}(b:s.TypeIs (.ref it) "dict_keyiterator")(h:Q "dict_keyiterator" s):wpAny (model prog w) A (typeNameOfWhole (.ref it)) Q E s:=wpAny_typeNameOfWhole_keyiter b h
def AQ{Q:Option lD->mT->Prop}(h:sj s.heap it d i es.size ep)(m:EntAt s.heap d es ep)(hi:i<es.size)
  (l:∀h',sj h' it d (i+1) es.size ep->(∀b o,b≠it->s.heap.get? b=some o->h'.get? b=some o)->Q (some es[i].key) {s with heap:=h' }):wpAny (model prog w) A (ach (.ref it)) Q E s:=by
 let⟨x,e,p,f⟩:=m.ex;let⟨h⟩:=h;have c:s.TypeIs (.ref it) "dict_keyiterator":=(⟨_,h,rfl⟩);have own:aa8 "dict_keyiterator" = false:=by decide
 unfold ach;refine aD (ab3 (aaF (name:=abY "__next__") c abw (aaJ abw c adY ?_ (adQ _))))
 wp_walk using Cn c,adE h rfl,abP e f,acd e f,adu c
 have u:(if (i:Int)<0 then none else es[((i:Nat):Int).toNat]?)=some es[i]:=by
  rw[if_neg (by omega),aaM,abu hi]
 rw[u];rcases s with⟨hp,g,r,t,os⟩;refine aD ?_;refine aD (Cn c (Dl ?_));refine aD (adu c ?_);show wpAny _ _ (acQ (.ref it) 1 (adj ((i:Int)+1)) >>= _) _ _ _;refine aD (aat h (by simp) λk v s1=>?_);replace s1:abk it hp k:=s1;have j:sj k it d (i+1) es.size ep:=by
  refine⟨?_⟩;have q:((i+1:Nat):Int)=(i:Int)+1:=rfl;rw[q];simpa[adj]using v
 have T:aeQ ⟨k,g,r,t,os⟩ (.ref it) "dict_keyiterator":=(⟨_,j.e,rfl⟩);refine aD (abI (aD (adu T ?_)));exact Dl (Dl ⟨_,rfl,Dl (l k j λb o n q=>s1.extBut b o n q)⟩)
def Bt{Q:Option lD->mT->Prop}(l:A.handled=none)(h:sj s.heap it d i es.size ep)(u:EntAt s.heap d es ep)(hi:es.size≤i)
  (k:∀h',(∀b o,b≠it->s.heap.get? b=some o->h'.get? b=some o)->Q none {s with heap:=h' }):wpAny (model prog w) A (ach (.ref it)) Q E s:=by
 let⟨B,f,v,g⟩:=u.ex;let⟨h⟩:=h;have c:s.TypeIs (.ref it) "dict_keyiterator":=(⟨_,h,rfl⟩);have own:aa8 "dict_keyiterator" = false:=by decide
 unfold ach;refine aD (ab3 (aaF (name:=abY "__next__") c abw (aaJ abw c adY ?_ (adQ _))))
 wp_walk using Cn c,adE h rfl,abP f g,acd f g,adu c
 have x:(if (i:Int)<0 then none else es[((i:Nat):Int).toNat]?)=none:=by
  rw[if_neg (by omega),aaM,aeq hi]
 rw[x];refine aD (aD (Cn c (Dl ?_)));refine aD (m:=acQ (.ref it) 0 .none) (aat h (by simp) λz C s1=>?_);refine jE l λj e y ⟨t,r,n⟩=>?_;exact aD (ack (T:= "StopIteration") (b:=true) ⟨t,r,n⟩ ael (Dl (k j λb o p q=>y b o (s1.extBut b o p q))))
end
noncomputable def DcE(H:Hp)(a:Addr)(o:Obj)(es:List (V×V)):Prop:=(∃x,H a=some (.frz o (dX a x))/\es=x.map (·.2))\/∃x,H a=some (.frz o (.dK x))/\es=x.map λp=>(kV p.1,p.2)
def DcE.mono{b:Hp}(p:Pers H b)(h:DcE H a o es):DcE b a o es:=by
 rcases h with⟨x,e,q⟩|⟨x,e,q⟩
 .exact .inl ⟨x,p.frzs _ _ _ e,q⟩
 .exact .inr ⟨x,p.frzs _ _ _ e,q⟩
section
variable {X:Cx}{p:List (Addr×Obj)}{b:St}{H:Hp}{s:mT}
def yv{P:aaD}{kk:Key}{u:lD}(e:(cj P w).is kk u=true):RelV (kV kk) u:=by
 rcases bG e with⟨i,t,rfl,rfl⟩|⟨x,t,rfl,rfl⟩
 .exact⟨t,rfl⟩
 .exact⟨t,rfl⟩
theorem Inv.dce(I:Inv X p b H s)(h:DcE H a o es):(a==abv)=false/\∃c f,s.heap.get? a=some o/\o.ExactDict/\o.data = .dict c f/\abJ (λ(e:V×V) (d:ab9)=>RelV e.1 d.key/\RelV e.2 d.val) es c.toList:=by
 rcases h with⟨x,e,rfl⟩|⟨x,e,rfl⟩
 .obtain⟨ho,⟨hs,hz,o',c,f,h1,h2,h3,h4⟩,_⟩:=(I.hok a _ e);rw[ho]at h1;cases h1;refine⟨hs,c,f,ho,h2,h3,?_⟩;clear e hz;generalize c.toList=l at h4;rename_i z;clear z
  induction h4 with
  |nil=>exact .nil
  |cons q _ i=>exact .cons q.2 i
 .obtain⟨ho,hz,hs,vs,kv,o',c,f,h1,h2,h3,h4,h5,h6⟩:=(I.hok a _ e);rw[ho]at h1;cases h1;refine⟨hs,c,f,ho,h2,h3,?_⟩;generalize c.toList=l at h5;clear h6 h4 h3 h2 hz e
  induction kv generalizing l with
  |nil=>cases h5;exact .nil
  | cons q _ i=>
   cases h5 with
   |cons g k j=>
    rw[aar];refine .cons ⟨?_,?_⟩ (i _ j)
    .rw[<-q.1]at g;exact yv g
    .rw[k];exact q.2
end
noncomputable def Itm(a:Addr)(o:Obj)(es:List (V×V)):It where
 go:=λi H=>DcE H a o es/\i<es.length
 yld:=λi H v b=>∃T p,v = .ref T/\H T=none/\b=upd H T (.tup [p.1,p.2])/\es[i]?=some p
 stop:=λi H=>DcE H a o es/\es.length≤i
theorem Paired.at{b β:Type}{R:b->β->Prop}:∀{xs:List b}{ys:List β}{i:Nat}{y:β},abJ R xs ys->ys[i]?=some y->∃x,xs[i]?=some x/\R x y
 |_,_,i,y,.nil,e=>by simp at e
 |_,_,0,y,.cons h _,e=>by simp at e;subst e;exact⟨_,rfl,h⟩
 |_,_,i+1,y,.cons _ t,e=>by
  let⟨x,d,c⟩:=Paired.at t ‹_›;exact⟨x,by simpa using d,c⟩
def Dg:entryFor table "dict_itemiterator.__iter__" = some ac8.«dict_keyiterator.__iter__»:=entryFor_alias (id':= "dict_keyiterator.__iter__") rfl (by rfl) (by decide +kernel) rfl
def w4{prog:aaD}{A:aa6}{E:lD->mT->Prop}{s:mT}{b d:Addr}{i n f:Nat}{ok e:lD}(st:acE s.heap b d i n f ok e)(h:Q (.ref b) s):wpAny (model prog w) A (ae4 (.ref b)) Q E s:=by
 have c:s.TypeIs (.ref b) "dict_itemiterator":=⟨_,st,rfl⟩;refine aer c adZ (aaJ adZ c Dg ?_ (PySem.F.args_dict_itemiterator_iter_1 _));refine Dl ⟨_,rfl,"dict_itemiterator",_,c,acL.lookup,?_⟩;exact h
theorem v3{P:aaD}{K:LD}{r:List Expr}{x1:Nat}{pos:Pos}{f:Addr}{e:Array ab9}{R:Nat}(ho:o.data = .dict e R):Turn P w K (.Tuple r x1 pos) (Itm a o es) [f] f (λi h=>∃ok j,acE h f a i e.size R ok j) where
 mem:=by simp
 obj:=λi h st c b=>by
  let⟨ok,j,M⟩:=st
  cases aab.mp b
  exact⟨_,M,λv q=>by cases q⟩
 keep:=λi h h' st k=>by
  let⟨ok,j,M⟩:=st;exact⟨ok,j,k f (by simp) _ M⟩
 item:=by
  intro X D N J b i d s F H E I t st C;subst D N J;let⟨ok,j,st⟩:=st;let⟨dc,T⟩:=C;let⟨_,g,G,B,L,l,x⟩:=I.dce dc;rw[ho]at l;cases l;have W:es.length=e.size:=by have:=x.length;simpa using this
  have m:i<e.size:=by omega
  let⟨p,Y,q2,Z⟩:=Paired.at x (i:=i) (y:=e[i]) (by simp[m]);refine qK st ⟨o,B,L,ho⟩ m λh' a1 a2 a3 a4=>⟨.ref s.heap.objs.size,rfl,?_⟩;refine wpAny_letOwnedTupleGo_items (s:={s with heap:=h' }) a1 λu b1 sb=>?_;have A:H s.heap.objs.size=none:=I.hok.fresh (Ad _);have O:f≠s.heap.objs.size:=aaS (OR st);have S:∀c o,c≠f->h'.get? c=some o->u.get? c=some o:=λc o n q=>sb.extBut c o n q;have T2:u.get? s.heap.objs.size=some {cls:=.type "tuple",data:=.seq #[e[i].key,e[i].val]}:=S _ _ (abf O) a2;have I0:Inv X d F (upd H s.heap.objs.size (.tup [p.1,p.2])) {s with heap:=s.heap.push {cls:=.type "tuple",data:=.seq #[e[i].key,e[i].val]},toks:=s.toks}:=
   I.laid (o:=.tup [p.1,p.2]) (λc o q=>AD _ q) (Ad _) ⟨by show 2≤aad;rw[aag];decide,[e[i].key,e[i].val],.cons q2 (.cons Z .nil),PlainT.new _ _⟩
  have V:Inv X d F (upd H s.heap.objs.size (.tup [p.1,p.2])) {s with heap:=u,toks:=s.toks}:=by
   refine Inv.turneds (s:={s with heap:=s.heap.push {cls:=.type "tuple",data:=.seq #[e[i].key,e[i].val]},toks:=s.toks}) (h':=u) (t':=s.toks) (ch:=[f]) I0 (λc o b q=>?_) λc b=>?_
   .have hc':c≠f:=λz=>b (by simp[z]);rcases aeW q with⟨rfl,rfl⟩|q
    .exact T2
    .exact S c o hc' (a4 c o hc' q)
   .obtain⟨f0,f1⟩:=t c b
    cases aab.mp b
    exact⟨by rw[au O];exact f0,f1⟩
  refine⟨.ref s.heap.objs.size,upd H s.heap.objs.size (.tup [p.1,p.2]),V,rfl,⟨_,p,rfl,A,rfl,Y⟩,⟨_,_,b1⟩,λc b=>?_⟩
  cases aab.mp b
  rw[au O];exact(t _ b).1
 done:=by
  intro X D N J b i d s F H E I t st C;subst D N J;let⟨ok,j,st⟩:=st;let⟨dc,T⟩:=C;let⟨_,g,G,B,L,l,x⟩:=I.dce dc;rw[ho]at l;cases l;have W:es.length=e.size:=by have:=x.length;simpa using this
  exact ql (I.ok.hd b) st ⟨o,B,L,ho⟩ (by omega) λh' U=>⟨rfl,I.turneds (t':=s.toks) (ch:=[f]) (λc o b q=>U c o (λz=>b (by simp[z])) q) t⟩
 self:=λ_ _ _ _ _ st h=>by
  let⟨ok,j,st⟩:=st;exact w4 st h
theorem sN{K:Kd}{H:Hp}:∀{kvs:List (dL×dL)}{xs:List (Int×V×V)},DenKV K H kvs xs->abJ (λ(p:dL×dL) (e:V×V)=>Den K H p.1 e.1/\Den K H p.2 e.2) kvs (xs.map (·.2))
 |[],_,h=>by simp[DenKV]at h;subst h;exact .nil
 |_::r,_,h=>by
  let⟨u,v,vs,rfl,d,b,c⟩:=h;exact .cons ⟨d,b⟩ (sN c)
theorem sI{K:Kd}{H:Hp}:∀{kvs:List (dL×dL)}{xs:List (Key×V)},DenKK K H kvs xs->abJ (λ(p:dL×dL) (e:V×V)=>Den K H p.1 e.1/\Den K H p.2 e.2) kvs (xs.map λp=>(kV p.1,p.2))
 |[],_,h=>by simp[DenKK]at h;subst h;exact .nil
 |(k,d)::r,_,h=>by
  let⟨c,v,vs,rfl,⟨rfl,_⟩,b,f⟩:=h;refine .cons ⟨?_,b⟩ (sI f)
  cases c with
  |inl i=>exact tm i
  |inr x=>exact GJ x
noncomputable abbrev PDc(K:Kd)(H:Hp):List (dL×dL)->List (V×V)->Prop:=abJ λp e=>Den K H p.1 e.1/\Den K H p.2 e.2
theorem PDc.mono{b:Hp}(p:Pers H b)(h:PDc K H kvs es):PDc K b kvs es:=by
 induction h with
 |nil=>exact .nil
 |cons h _ i=>exact .cons ⟨h.1.mono p,h.2.mono p⟩ i
theorem O6{v:V}(h:Den K H (.dict kvs) v)(b:isKd kvs=true\/kyA kvs=true):∃a o es,v = .ref a/\DcE H a o es/\PDc K H kvs es:=by
 obtain _:=lH b;let⟨a,rfl,h⟩:=h;rcases h with⟨x,⟨o,f⟩,k,g⟩|⟨x,o,f,g⟩|⟨c,x,e,_⟩
 .exact⟨a,o,_,rfl,.inl ⟨x,f,rfl⟩,sN g⟩
 .exact⟨a,o,_,rfl,.inr ⟨x,f,rfl⟩,sI g⟩
 .grind
noncomputable def cw(kvs:List (dL×dL)):List dL:=kvs.map λp=>.tuple [p.1,p.2]
noncomputable def pc(kvs:List (dL×dL)):List dL:=kvs.map (·.1)
theorem Paired.at1{b β:Type}{R:b->β->Prop}:∀{xs:List b}{ys:List β}{i:Nat}{x:b},abJ R xs ys->xs[i]?=some x->∃y,ys[i]?=some y/\R x y
 |_,_,i,y,.nil,e=>by simp at e
 |_,_,0,y,.cons h _,e=>by simp at e;subst e;exact⟨_,rfl,h⟩
 |_,_,i+1,y,.cons _ t,e=>by
  let⟨x,d,c⟩:=Paired.at1 t ‹_›;exact⟨x,by simpa using d,c⟩
def xt:Wks K (Itm a o es) (cw kvs) λH=>DcE H a o es/\PDc K H kvs es where
 stop:=λH ⟨q,g⟩=>⟨q,by unfold cw;rw[gE,g.length];exact Ad _⟩
 go:=λi H h ⟨q,g⟩=>⟨q,by unfold cw at h;rw[gE,g.length]at h;exact h⟩
 yld:=λi H x n h ⟨q,g⟩ y=>by
  let⟨T,u,rfl,f,rfl,l⟩:=y;let⟨p,j,e,k⟩:=Paired.at g l;have c:∀b o,H b=some o->upd H T (.tup [u.1,u.2]) b=some o:=λb o q=>by rw[au (bf q f)];exact q
  have d:Pers H _:=⟨λb m q=>c b _ q,λb o u q=>c b _ q⟩;exact⟨c,.tuple [p.1,p.2],by unfold cw;rw[GE,j];rfl,cR (SqT.of ay) (DenAll.cons (e.mono d) (DenAll.cons (k.mono d) DenAll.nil))⟩
section
variable {X:Cx}{tg o:Expr}{i:List Expr}{j:Nat}{t:Pos}{w:WE}{f g:Pos}
noncomputable def Oi(to:TE):TI:=λc H R=>to c H λx b=>∃a o es,x = .ref a/\DcE b a o es/\R (Itm a o es) b
theorem Dq{to:TE}(ho:PE X o to)(d:abz o "items" X.env (eval o X.env)=eval o X.env:=by rfl)(k:(f.endLine==g.line)=true:=by rfl):PI X (.Tuple i j t) (.Call (.Attribute o "items" f) [] [] g) (Oi to):=by
 intro p s G H R I h;refine af8 d k (thn (ho p s G H _ I h) λv s1 ⟨x,E,n,r1,D⟩=>?_);let⟨a,u,es,rfl,dc,q⟩:=D;cases r1;let⟨hs,m,F,r,y,z,M⟩:=n.dce dc;have B:EntAt s1.heap a m F:=⟨u,r,y,z⟩;refine⟨"dict","dict.items",aef,aeg,af9,⟨u,r,y.1⟩,λb e=>by cases e;exact⟨u,r,y.2.1⟩,adf rfl (ag6 (lP hs B ?_))⟩;have A:∀b o,s1.heap.get? b=some o->(s1.heap.push {cls:=.type "dict_items",data:=.fields #[.ref a]}).get? b=some o:=λb o q=>AD _ q;refine vY (aaa _ rfl) (B.keep λo=>A _ o) λL Z C=>?_;have l:s1.heap.objs.size≤(s1.heap.push {cls:=.type "dict_items",data:=.fields #[.ref a]}).objs.size:=by rw[abx];exact ahX _
 refine⟨_,[_],_,_,E,rfl,n.kept (t':=s1.toks) λb o q=>C b o (A b o q),v3 z,⟨_,_,Z⟩,λc J=>?_,q⟩
 cases aab.mp J
 exact n.fpOk l (n.hok.fresh l)
noncomputable def onDc(P:List (dL×dL)->Prop):R->Prop
 | .imm (.dict kvs)=>(isKd kvs||kyA kvs)=true/\P kvs
 |_=>False
theorem Ol{n:Al}{b:Hp}{r:R}{v:V}(h:RelR K n b H r v)(k:onDc P r):∃kvs a o es,v = .ref a/\DcE H a o es/\PDc K H kvs es/\P kvs:=by
 cases r with
 | imm d=>
  cases d with
  |dict kvs=>
   let⟨p,c⟩:=k;let⟨a,o,es,m,e,l⟩:=O6 (h) (by simp_all);exact⟨kvs,a,o,es,m,e,l,c⟩
  |none=>exact k.elim
  |bool _=>exact k.elim
  |int _=>exact k.elim
  |str _=>exact k.elim
  |list _=>exact k.elim
  |tuple _=>exact k.elim
 |_=>exact k.elim
noncomputable abbrev xW(w:WE):WI:=λm K=>w m λr b=>onDc (λkvs=>K ⟨cw kvs,none⟩ b) r
theorem CP(ho:ME X o w)(h:abz o "items" X.env (eval o X.env)=eval o X.env:=by rfl)(b:(f.endLine==g.line)=true:=by rfl):MI X (.Tuple i j t) (.Call (.Attribute o "items" f) [] [] g) (xW w):=(Dq ho h b).wk<|by
 intro B H z ⟨d,m,D,e,s,fin⟩;refine⟨d,m,_,e,s,λr u v l k n R rr F=>?_⟩;let⟨kvs,a,c,es,rfl,dc,q,k⟩:=Ol rr k;exact⟨a,c,es,rfl,dc,fin _ u _ l k n R F ⟨_,xt,⟨dc,q⟩,by intro C A ⟨x,y⟩ p;exact⟨x.mono p,y.mono p⟩⟩⟩
theorem yw(ho:EE X o w)(h:abz o "items" X.env (eval o X.env)=eval o X.env:=by rfl)(b:(f.endLine==g.line)=true:=by rfl):EI X (.Tuple i j t) (.Call (.Attribute o "items" f) [] [] g) (xW w):=⟨CP ho.h h b⟩
def FH(b:(isKd kvs||kyA kvs)=true)(h:P kvs):onDc P (.imm (.dict kvs)):=⟨b,h⟩
end
noncomputable def putX (k:dL) (b:Addr) (r:lD):List (dL×Addr×lD)->List (dL×Addr×lD)
 |[]=>[(k,b,r)]
 |x::xs=>if x.1=k then(x.1,x.2.1,r)::xs else x::putX k b r xs
theorem uF{k:dL}{r:lD}:∀{xs:List (dL×Addr×lD)},k∉xs.map (·.1)->xs.map (putAt k r)=xs
 |[],_=>rfl
 |x::xs,h=>by
  rw[aar,aam,not_or]at h;rw[aar,uF h.2];unfold putAt;rw[if_neg (λz=>h.1 z.symm)]
theorem kU{k:dL}{b:Addr}{r:lD}:∀{xs:List (dL×Addr×lD)},(xs.map (·.1)).Nodup->storedH xs k b r=putX k b r xs
 |[],_=>rfl
 | x::xs,h=>by
  rw[aar,aaR]at h
  by_cases e:x.1=k
  .have a:atKey (x::xs) k=some x.2:=by simp[atKey,e]
   rw[storedH_old a,aar,uF (by rw[<-e];exact h.1)];unfold putX putAt;rw[if_pos e,if_pos e]
  .have a:atKey (x::xs) k=atKey xs k:=by simp[atKey,e]
   have i:=kU (k:=k) (b:=b) (r:=r) h.2;unfold putX;rw[if_neg e,<-i];unfold storedH;rw[a];split
   .rw[aar];unfold putAt;rw[if_neg e]
   .rfl
noncomputable def putE (w:World) (k:dL) (y v:V):List (dL×dL)->List (Int×V×V)->List (Int×V×V)
 |(k',_)::r,e::es=>if k'=k then(e.1,e.2.1,v)::es else e::putE w k y v r es
 |_,_=>[(d5 w k,y,v)]
def ym{k d k' d':dL}{r:List (dL×dL)}(h:kyD k'=true)(b:kyD k=true):putP k d ((k',d')::r)=if k'=k then(k',d)::r else(k',d')::putP k d r:=by
 show(if aah k' k=true then _ else _)=_;rw[oZ _ _ (ll h) (ll b)];simp
theorem uX(w:World)(k:dL)(y v:V):∀(kvs:List (dL×dL)) (es:List (Int×V×V)),kvs.length=es.length->(putE w k y v kvs es).length≤es.length+1
 |[],[],_=>Ad _
 |_::r,e::es,h=>by
  unfold putE;split
  .simp
  .rw[aaG,aaG];have:=uX w k y v r es (by simpa using h);omega
 |[],_::_,h=>by simp at h
 |_::_,[],h=>by simp at h
theorem uE{K:Kd}{H:Hp}{k d:dL}{y v:V}(h:kyD k=true)(c:Den K H k y)(b:Den K H d v):∀{kvs:List (dL×dL)}{es:List (Int×V×V)},kyA kvs=true->DenKV K H kvs es->DenKV K H (putP k d kvs) (putE K.w k y v kvs es)
 |[],es,_,g=>by
  subst g;show DenKV K H [(k,d)] [(d5 K.w k,y,v)];simp only[DenKV];exact⟨y,v,[],rfl,c,b,rfl⟩
 |(k',d')::r,es,ha,g=>by
  rw[kyA,acK,aaT]at ha;let⟨u,l,vs,rfl,i,j,f⟩:=g;rw[ym ha.1 h];unfold putE
  by_cases e:k'=k
  .rw[if_pos e,if_pos e];simp only[DenKV];exact⟨u,v,vs,rfl,i,b,f⟩
  .rw[if_neg e,if_neg e];simp only[DenKV];exact⟨u,l,_,rfl,i,j,uE h c b ha.2 f⟩
theorem Ik{k:dL}{b:Addr}{v:V}{r:lD}(e:RelV v r):∀{kvs:List (dL×dL)}{es:List (Int×V×V)}{xs:List (dL×Addr×lD)},xs.map (·.1)=kvs.map (·.1)->ExV w es xs->ExV w (putE w k (.ref b) v kvs es) (putX k b r xs):=by
 intro kvs
 induction kvs with
 |nil=>
  intro es xs d ex;have:=by simpa using d
  subst this;exact .cons ⟨rfl,rfl,e⟩ .nil
 | cons q kvs i=>
  intro es xs d ex;let⟨f,g⟩:=q
  cases ex with
  |nil=>simp at d
  |cons h t=>
   simp at d;unfold putE putX
   by_cases c:f=k
   .rw[if_pos c,if_pos (d.1.trans c)];exact .cons ⟨h.1,h.2.1,e⟩ t
   .rw[if_neg c,if_neg (λz=>c (d.1.symm.trans z))];exact .cons h (i d.2 t)
noncomputable def DxM(K:Kd)(H:Hp)(a:Addr)(kvs:List (dL×dL))(es:List (Int×V×V)):Prop:=
 DenKV K H kvs es/\(kvs.map (·.1)).Nodup/\kyA kvs=true/\((H a=some (dX a es)/\kvs≠[])\/(H a=some (.dK [])/\kvs=[]))
section
variable {X:Cx}{c:List (Addr×Obj)}{f:St}{H:Hp}{s:mT}{a:Addr}{kvs:List (dL×dL)}{es:List (Int×V×V)}{k d:dL}{y v:V}{u r:lD}{A:aa6}{E:lD->mT->Prop}
def DxM.is(I:Inv X c f H s)(h:DxM X.kd H a kvs es):(a==abv)=false/\∃xs,s.heap.DictOfH (lu X.prog X.w) a xs/\PxV X.kd H kvs xs/\ExV X.w es xs:=by
 obtain⟨g,nd,ky,⟨q,_⟩|⟨q,rfl⟩⟩:=h
 .obtain⟨hs,_,xs,dd,p,e⟩:=I.dcE (.inl q) g nd ky;exact⟨hs,xs,dd,p,e⟩
 .obtain⟨hs,dd⟩:=I.dc0 (.inl q);subst g;exact⟨hs,[],dd,.nil,.nil⟩
theorem D7{Q:Unit->mT->Prop}(G:A.units+20<cLine)(I:Inv X c f H s)(h:DxM X.kd H a kvs es)(l:kyD k=true)(m:Den X.kd H k y)(O:RelV y u)(R:RelV v r)(T:kvs.length<aad)
  (fin:∀s',Inv X c f (upd H a (dX a (putE X.w k y v kvs es))) s'->Q () s'):wpAny (model X.prog X.w) A (dictSet a u r) Q E s:=by
 let⟨hs,x,M,p,ex⟩:=h.is I;let⟨b,rfl⟩:=uf l m;cases (O);have le:es.length=kvs.length:=h.1.len.symm;have V:x.length=kvs.length:=by have:=congrArg aeU p.keys;simpa using this
 refine wpAny_dictSet_heap (knd:=lu X.prog X.w) G (I.ky l m) M (λS g j=>fin _ ?_) (by omega);rw[kU (by rw[p.keys];exact h.2.1)]at g;let⟨o,e,C,i,t,z,n,F,N⟩:=g;have J:Mut (H a):=by
  rcases h.2.2.2 with⟨q,_⟩|⟨q,_⟩
  .rw[q];exact trivial
  .rw[q];exact trivial
 refine ud I J j ⟨o,i⟩ ⟨⟨hs,?_,o,e,C,i,t,z,?_⟩,⟨o,i⟩,λha hb B D=>?_⟩
 .have:=uX X.w k (.ref b) v kvs es le.symm;omega
 .rw[n];have:=Ik (w:=X.w) (k:=k) (b:=b) R p.keys ex;generalize putE X.w k (.ref b) v kvs es=W at this;generalize putX k b r x=U at this;clear n F N
  induction this with
  |nil=>exact .nil
  |cons q _ L=>exact .cons ⟨q.1.symm,by rw[q.2.1];rfl,q.2.2⟩ L
 .obtain⟨z1,z2,o',ents',ep',z3,z4⟩:=B;exact⟨z1,z2,o',ents',ep',D o' z3,z4⟩
theorem v8{Q:Unit->mT->Prop}(q:A.units+64<cLine)(I:Inv X c f H s)(h:DxM X.kd H a kvs es)(i:kyD k=true)(e:Den X.kd H k y)(j:RelV y u)(l:RelV v r)(n:kvs.length<aad)
  (fin:∀s',Inv X c f (upd H a (dX a (putE X.w k y v kvs es))) s'->Q () s'):wpAny (model X.prog X.w) A (ahx (.ref a) u r) Q E s:=by
 let⟨hs,x,b,p,ex⟩:=h.is I;refine abI ?_;refine aD (afI b.typeIs (by decide) ?_);refine aD (aaF b.typeIs slot_dict_setitem (aaJ slot_dict_setitem b.typeIs entry_dict_setitem ?_ (args_dict_setitem _ _ _)));refine aD (aez b.typeIs ?_);refine aD (m:=dictSet a u r) (D7 (by grind) I h i e j l n λs' g=>Dl ⟨.none,rfl,Dl (fin s' g)⟩)
end
noncomputable def OI(K:Kd)(t ty f:TE):TS:=λD b H=>f b H λv d=>t b d λx e=>ty b e λy c=>∃a kvs es k,x = .ref a/\DxM K c a kvs es/\kyD k=true/\Den K c k y/\kvs.length<aad/\D.nx b (upd c a (dX a (putE K.w k y v kvs es)))
section
variable {X:Cx}{o i e:Expr}{G A B:WE}{pos f:Pos}{J ty E:TE}
theorem DA(g:X.A.units+64<cLine)(ho:PE X o J)(hi:PE X i ty)(c:PE X e E)(hs:abQ e (some (.Subscript o i f)) pos.line X.env=pure false):PS X (.Assign [.Subscript o i f] e pos) (OI X.kd J ty E):=by
 intro p s b H D I h;refine ago (thn (c p s b H _ I h) λr s1 ⟨v,F,O,n,q⟩=>thn (ho p s1 b F _ O q) λu s2 ⟨x,L,t,z,N⟩=>thn (hi p s2 b L _ t N) λT U ⟨y,R,j,m,a,kvs,es,k,ex,dx,ky,l,d,C⟩=>?_) hs;subst ex;obtain rfl:u=adq a:=z;exact v8 g j dx ky l m n d λS M=>⟨b,_,M,C⟩
theorem kG{k d:dL}(b:kyD k=true):∀{kvs:List (dL×dL)},kyA kvs=true->(putP k d kvs).map (·.1)=if k∈kvs.map (·.1)then kvs.map (·.1)else kvs.map (·.1)++[k]
 |[],_=>rfl
 | (k',d')::r,h=>by
  rw[kyA,acK,aaT]at h;rw[ym h.1 b]
  by_cases e:k'=k
  .rw[if_pos e,if_pos (by simp[e])];rfl
  .rw[if_neg e,aar,kG b h.2]
   by_cases c:k∈r.map (·.1)
   .rw[if_pos c,if_pos (by simp[c])];rfl
   .rw[if_neg c,if_neg (by simp only[aar,aam,not_or];exact⟨λz=>e z.symm,c⟩)];rfl
def vG{k d:dL}(g:kyD k=true)(h:kyA kvs=true)(nd:(kvs.map (·.1)).Nodup):((putP k d kvs).map (·.1)).Nodup:=by
 rw[kG g h];split
 .omega
 .rename_i c;exact ahD.mpr ⟨nd,by simp,λa ha b hb=>by simp at hb;subst hb;exact λz=>c (z▸ha)⟩
theorem uz{k d:dL}(b:kyD k=true)(h:kyA kvs=true):kyA (putP k d kvs)=true:=by
 have e:∀l:List _,kyA l=(l.map _).all kyD:=λl=>by unfold kyA;rw[adJ];rfl
 rw[e,kG b h];rw[e]at h;split
 .exact h
 .rw[List.all_append,h];simp[b]
theorem Gu(k d:dL)(kvs:List (dL×dL)):putP k d kvs≠[]:=by
 cases kvs with
 |nil=>intro h;cases h
 |cons x r=>
  show(if _ then _ else _)≠_
  split<;>simp
theorem Cj(h:kyA kvs=true)(n:kvs≠[]):isKd kvs=false:=by
 cases kvs with
 |nil=>exact(n rfl).elim
 |cons x r=>
  let⟨k,d⟩:=x;rw[kyA,acK,aaT]at h;let⟨ds,rfl,_⟩:=iy h.1;rfl
def jO(h:kyA kvs=true)(n:kvs≠[])(nd:(kvs.map (·.1)).Nodup):wJ kvs:=
 ⟨Cj h n,nd,λk b=>by
  let⟨x,c,rfl⟩:=aae.mp b;exact ll (ab2.mp h x c)⟩
noncomputable abbrev Fe(B G A:WE):WS:=λD m=>B m λg m1=>i7 (λd=>G m1 λc m2=>A m2 λr b=>onAt (λk p=>i7 (λy=>∃t kvs,b.os[k]?=some [t]/\getT t p=some (.dict (lfKV kvs))/\okW t p=true/\kyA kvs=true/\kyD y=true/\kvs.length<aad/\D.nx {b with os:=b.os.set k [setT t p (.dict (lfKV (putP y d kvs)))]}) r) c) g
def xJ(kvs:List (dL×dL)):kyA (lfKV kvs)=kyA kvs:=by
 unfold kyA lfKV;rw[adJ];rfl
theorem Rel.dx{K:Kx}{n:Al}{m:MSt}{s:St}{k:Nat}{τ:List (List Nat×Addr)}{p:List Nat}{t:dL}(R:Rel K n m s H)(r:n[k]?=some (.T τ))(q:τ.lookup p=some a)(x:m.os[k]?=some [t])(v:getT t p=some (.dict (lfKV kvs)))(ky:kyA kvs=true):∃es,DxM K H a kvs es:=by
 let⟨⟨D,L,z,g,_⟩,_⟩:=R.own k (.T τ) _ r x;cases z;let⟨y,g⟩:=g.get v;rw[acB]at g;let⟨n1,n2⟩:=lH (.inr (by rw[xJ];exact ky));rcases g with⟨d,h,_⟩|⟨_,_,b,es,h,u,j,l,g⟩|⟨_,_,b,es,h,u,j,g⟩|⟨c,b,dx,C,F,I,_⟩
 .rw[n1]at h;cases h
 .rw[q]at h;cases h;exact⟨es,fzKV g,by rw[<-iu];exact l.2.1,ky,.inl ⟨j,λz=>by subst z;exact absurd l.1 (by decide)⟩⟩
 .simp_all
  let⟨rfl,rfl⟩:=O7 (fzKK g) ky;exact⟨[],by simp only[DenKV],adC,rfl,.inr ⟨j,rfl⟩⟩
 .grind
theorem CQ(hu:X.A.units+64<cLine)(he:ME X e B)(ho:ME X o G)(hi:ME X i A)(hs:abQ e (some (.Subscript o i f)) pos.line X.env=pure false:=by rfl):MS X (.Assign [.Subscript o i f] e pos) (Fe B G A):=(DA hu ho hi he hs).wk<|by
 intro D σ H ⟨I,m,De,Rl,hw,k⟩;refine⟨I,m,_,Rl,hw,λr m1 v H1 q n1 x rr F1=>?_⟩;let⟨d,er,hd,q⟩:=fE rr q;refine⟨I,m1,_,x,q,λro m2 ov H2 q2 n2 F rr2 F2=>⟨I,m2,_,F,q2,λri m3 U n L n3 R rr3 F3=>?_⟩⟩;let⟨kk,p,M,a,rfl,O,s,rfl,L⟩:=OW rr2 L;let⟨y,rfl,hy,t,kvs,e3,et,S,ky,h,hl,L⟩:=fE rr3 L;let⟨es,dx⟩:=R.dx O s e3 et ky;have W:Den X.kx n d v:=(hd.mono (x.pers F2)).mono (F.pers F3);let⟨⟨t1,v0,z,g,a0,Z,ev0⟩,mu⟩:=R.own kk (.T M) _ O e3;cases z;let⟨u0,V,mu0⟩:∃u,n a=some u/\Mu u=true:=by
  rcases dx.2.2.2 with⟨q,_⟩|⟨q,_⟩
  .exact⟨_,q,rfl⟩
  .exact⟨_,q,rfl⟩
 have N:Pers n (upd n a (dX a (putE X.w y U v kvs es))):=bu (.inr ⟨u0,V,mu0⟩);have ok:=jO (kvs:=putP y d kvs) (uz h ky) (Gu y d kvs) (vG h ky dx.2.1);have nd:(M.map (·.2)).Nodup:=((fH I).mp R.nd).1 (.T M) (oR O);have new:TAt X.kx (upd n a (dX a (putE X.w y U v kvs es))) M p (.dict (lfKV (putP y d kvs))) (.ref a):=by
  let⟨z1,T⟩:=lH (.inr (by rw[xJ];exact uz h ky):isKd (lfKV (putP y d kvs))=true\/kyA (lfKV (putP y d kvs))=true);simp only[TAt];refine .inr (.inl ⟨z1,T,a,_,s,rfl,ay,⟨by rw[km];exact ok.1,by rw[iu];exact ok.2.1,by rw[iu];exact ok.2.2⟩,Mh ?_⟩);exact uE h (hy.mono N) (W.mono N) ky (DenKV.mono N dx.1)
 have all:TAt X.kx (upd n a (dX a (putE X.w y U v kvs es))) M [] (setT t p (.dict (lfKV (putP y d kvs)))) v0:=TAt.set nd N g et S (by rw[acB];exact s) (by rw[acB];exact new) λu l=>by
  let⟨z1,T⟩:=lH (.inr (by rw[xJ];exact ky):isKd (lfKV kvs)=true\/kyA (lfKV kvs)=true);rw[acB]at l;simp only[TAt]at l;rcases l with⟨d,j,_⟩|⟨_,_,b,es,j,Y,_⟩|⟨_,_,b,es,j,Y,_⟩|⟨c,b,dx,C,xs,y0,_⟩
  .rw[z1]at j;cases j
  .rw[s]at j;cases j;exact Y
  .rw[s]at j;cases j;exact Y
  .rw[T]at y0;cases y0
 let⟨R4,F4⟩:=R.setW O N (ds':=[setT t p (.dict (lfKV (putP y d kvs)))]) (λb hb=>au λeb=>hb (eb▸bm s)) ⟨⟨_,v0,rfl,all,a0,Z,ev0⟩,λb hb=>by
  by_cases eb:b=a
  .subst eb;exact⟨_,ay,rfl⟩
  .rw[au eb];exact mu b hb⟩
 exact⟨a,kvs,es,y,rfl,dx,h,hy,hl,k.nx I _ σ _ L (n3.trans (n2.trans n1)) R4 (.of R4 (((F1.trans F2).trans F3).trans F4))⟩
def pI(b:X.A.units+64<cLine)(h:EE X e B)(ho:EE X o G)(hi:EE X i A)(hs:abQ e (some (.Subscript o i f)) pos.line X.env=pure false:=by rfl):ES X (.Assign [.Subscript o i f] e pos) (Fe B G A):=⟨CQ b h.h ho.h hi.h hs⟩
noncomputable def wFzX(w:WS):WS:=λD m=>∃(k j:Nat) (kvs:List (dL×dL)) (b:List Nat) (m2:MSt),m.vs[j]?=some (some (.at k []))/\m.os[k]?=some [.dict (lfKV kvs)]/\kyA kvs=true/\Fz k (.dict kvs) b m m2/\w D m2
theorem Lw{st:Stmt}{w:WS}(h:MS X st w):MS X st (wFzX w):=(Md h).wk<|by
 intro D u H ⟨I,m,L,R,⟨k,y,kvs,C,m2,t,s,ky,F,r⟩,l⟩;let⟨v,M,z,a,c,d,rfl⟩:=R.var y _ t;let⟨es,dx⟩:=R.dx c d s (p:=[]) rfl ky;have n:∀(j:Nat) (v:V),(m.vs[j]?=some (some (.obj k))\/m.vs[j]?=some (some (.at k [])))->u[j]?=some (some v)->v = .ref a:=λj v b x=>by
  rcases b with b|b
  .obtain⟨v',ev',a',ea',_⟩:=R.var j _ b;rw[c]at ea';cases ea'
  .obtain⟨v',ev',τ',a',ea',el',rfl⟩:=R.var j _ b
   grind
 rcases dx.2.2.2 with⟨q,ne⟩|⟨q,rfl⟩
 .refine r8 R l F c (bm d) q rfl rfl (λo g=>?_) n r;simp only[Den];exact⟨a,rfl,.inl ⟨es,⟨o,ay⟩,jO ky ne dx.2.1,DenKV.mono g dx.1⟩⟩
 .refine r8 R l F c (bm d) q rfl rfl (λo g=>?_) n r;simp only[Den];exact⟨a,rfl,.inr (.inl ⟨[],o,ay,by simp only[DenKK]⟩)⟩
def yy{st:Stmt}{w:WS}(h:ES X st w):ES X st (wFzX w):=⟨Lw h.h⟩
def KJ{w:WS}{D:d7}{m:MSt}(k j:Nat)(kvs:List (dL×dL))(b:List Nat)(m2:MSt)(c:m.vs[j]?=some (some (.at k [])))(g:m.os[k]?=some [.dict (lfKV kvs)])(d:kyA kvs=true)(F:Fz k (.dict kvs) b m m2)(h:w D m2):wFzX w D m:=⟨k,j,kvs,b,m2,c,g,d,F,h⟩
noncomputable def PQ(K:Kd)(t E:TE):TE:=λc H Q=>∀p,H p=none->t c (upd H p (.dK [])) λy d=>E c d λv b=>b p=some (.dK [])/\∃k,kyD k=true/\Den K b k y/\∀g,Q (.ref p) (upd b p (.frz g (dX p [(d5 K.w k,y,v)])))
theorem Cp{t E:TE}(V:X.A.units+64<cLine)(n:PE X i t)(l:PE X e E):PE X (.Dict [some i] [e] pos) (PQ X.kd t E):=by
 intro p s h H Q I q;have R:=I.hok.fresh (Ad s.heap.objs.size);have S:=I.laid (o:=.dK []) (h':=s.heap.push {cls:=.type "dict",data:=.dict #[]}) (t':=s.toks) (λ_ _ q=>AD _ q) (Ad _) (uo s.heap I.big);refine wpAny_Dict_any rfl rfl (by simp) (show 1≤15 by decide) (pairTrees_cons_walk (thn (n p _ h _ _ S (q _ R)) λu s1 ⟨y,D,x,O,C⟩=>thn (l p s1 h D _ x C) λr s2 ⟨v,g,L,T,z,k,ky,M,N⟩=>pairTrees_nil_walk ?_));unfold storeAll;rw[ae7];refine aD (aD (D7 (kvs:=[]) (es:=[]) (by omega) L ⟨by simp only[DenKV],adC,rfl,.inr ⟨z,rfl⟩⟩ ky M O T (by rw[aag];decide) λU m=>Dl ?_));let⟨d,j⟩:=m.freezeU ay rfl;have F:upd (upd g s.heap.objs.size (dX s.heap.objs.size (putE X.w k y v [] []))) s.heap.objs.size (.frz d (dX s.heap.objs.size (putE X.w k y v [] [])))=upd g s.heap.objs.size (.frz d (dX s.heap.objs.size [(d5 X.w k,y,v)])):=by
  funext b
  by_cases c:b=s.heap.objs.size
  .subst c;rw[ay,ay];rfl
  .rw[au c,au c,au c]
 rw[F]at j;exact Dl ⟨.ref s.heap.objs.size,_,j,rfl,N d⟩
noncomputable abbrev Fh(wk c:WE):WE:=λm K=>wk m λr m1=>i7 (λk=>c m1 λb m2=>i7 (λd=>kyD k=true/\K (.imm (.dict [(k,d)])) m2) b) r
theorem AM(T:X.A.units+64<cLine)(O:ME X i A)(N:ME X e B):ME X (.Dict [some i] [e] pos) (Fh A B):=(Cp T O N).wk<|by
 intro Y H Q ⟨j,m,Z,u,U,fin⟩;intro p hp;refine⟨j,m,_,u.lay hp,U,λrk m1 y W C n1 R z L=>?_⟩;let⟨k,rfl,x,C⟩:=fE z C;refine⟨j,m1,_,R,C,λrv m2 v g D n2 n t F=>?_⟩;let⟨d,rfl,hd,kd,D⟩:=fE t D;have c:p∉ads j:=u.out hp;have I:g p=some (.dK []):=F p _ (L p _ ay c) c;have l:Den X.kx g k y:=x.mono (R.pers F);refine⟨I,k,kd,l,λq=>?_⟩;have s:Pers g (upd g p (.frz q (dX p [(d5 X.w k,y,v)]))):=bu (.inr ⟨_,I,rfl⟩);have fr:Frm j H (upd g p (.frz q (dX p [(d5 X.w k,y,v)]))):=λb o eb M=>by
  have ne:b≠p:=bf eb hp;rw[au ne];exact F b o (L b o (by rw[au ne];exact eb) M) M
 have old:Ext X.kx.eb.np j H j (upd g p (.frz q (dX p [(d5 X.w k,y,v)]))):=⟨rfl,fr,λ_ h=>.inl h,λb hb=>by
  have r:b≠p:=λe=>c (e▸hb);rw[au r];let⟨S,V,_⟩:=n.mem hb;exact⟨S,V⟩⟩
 refine fin _ m2 _ _ D (n2.trans n1) (n.at' s (λb hb=>au λe=>c (e▸hb)) (u.ebx.trans old)) (show Den X.kx _ (.dict [(k,d)]) (.ref p)from ?_) fr;simp only[Den];refine⟨p,rfl,.inl ⟨_,⟨q,ay⟩,jO (by simp[kyA,kd]) (by simp) (by simp),?_⟩⟩;simp only[DenKV];exact⟨y,v,[],rfl,l.mono s,hd.mono s,rfl⟩
def pG(b:X.A.units+64<cLine)(h:EE X i A)(c:EE X e B):EE X (.Dict [some i] [e] pos) (Fh A B):=⟨AM b h.h c.h⟩
def xh{a b:dL}(ha:kdD a=true)(hb:kdD b=true):AE a b=aah a b:=by
 let⟨c,rfl⟩:=oO ha;let⟨k,rfl⟩:=oO hb;rw[zY,qE]
theorem yo{y d:dL}(b:kdD y=true):∀{kvs:List (dL×dL)},isKd kvs=true->putD y (lfD d) (lfKV kvs)=lfKV (putP y d kvs)
 |[],_=>rfl
 |(k',d')::r,h=>by
  rw[oh,acK,aaT]at h;have c:=yo (d:=d) b (by rw[oh];exact h.2);show(if AE k' y=true then _ else _)=lfKV (if aah k' y=true then _ else _);rw[xh h.1 b];split
  .rfl
  .show _::putD y _ (lfKV r)=_;rw[c];rfl
end
end L2
namespace K
open PySem L2 M7
variable{D a b t v:Int}{S n q:Nat}{h:Hall}{r:Rule}{L:List Pr}
def yl(h:a.natAbs<10^160):ac8.Int.intBits a≤540:=intBits_le_iff.mpr (aaA h (by decide))
def df(ha:a.natAbs<10^160)(hb:b.natAbs<10^160):afY a b:=afY.of_le (yl ha) (yl hb) (by decide)
theorem cfdB{i:Int}{g:Nat}(h0:0<g)(h:g<10^160):CFd i (g:Int):=⟨by omega,by
 rw[aaH];have:=(agP (by exact aaY ‹_›)).mpr (aaA h (show 10^160<2^540 by decide));omega⟩
noncomputable def nfP(t b:Int):Int×Int:=if b<0 then((-t)/((t.natAbs.gcd b.natAbs:Nat):Int),(-b)/((t.natAbs.gcd b.natAbs:Nat):Int))else(t/((t.natAbs.gcd b.natAbs:Nat):Int),b/((t.natAbs.gcd b.natAbs:Nat):Int))
noncomputable def nf(t b:Int):dL:=.tuple [.int (nfP t b).1,.int (nfP t b).2]
noncomputable def Bq:SpM:=λas K=>∃t b:Int,as=[.imm (.int t),.imm (.int b)]/\b≠0/\t.natAbs<10^160/\b.natAbs<10^160/\K (.imm (nf t b)) []
structure FrOk(a b:Int):Prop where
 ha:a.natAbs<10^76
 hb:b.natAbs<10^76
 hp:0<b
noncomputable def frT(a b:Int):dL:=.tuple [.int a,.int b]
noncomputable def Jk(f:Int->Int->Int->Int->dL):SpM:=λas K=>∃a b c d:Int,as=[.imm (frT a b),.imm (frT c d)]/\FrOk a b/\FrOk c d/\K (.imm (f a b c d)) []
noncomputable def addF(a b c d:Int):dL:=nf (a*d+c*b) (b*d)
noncomputable def subF(a b c d:Int):dL:=nf (a*d-c*b) (b*d)
noncomputable def mulF(a b c d:Int):dL:=nf (a*c) (b*d)
noncomputable def Pq:SpM:=λas K=>∃a b c d:Int,as=[.imm (frT a b),.imm (frT c d)]/\FrOk a b/\FrOk c d/\c≠0/\K (.imm (nf (a*d) (b*c))) []
theorem fX(ha:a.natAbs<10^76)(hb:b.natAbs<10^76):(a*b).natAbs<10^152:=by
 rw[aes];have h:=Nat.mul_lt_mul'' ha hb;omega
def rL(h:n<10^152):n<10^160:=aaA h (by decide)
def up45(h:n<10^76):n<10^160:=aaA h (by decide)
theorem K7(ha:a.natAbs<10^152)(hb:b.natAbs<10^152):(a+b).natAbs<10^160:=by
 have h:=Int.natAbs_add_le a b;omega
theorem P9(ha:a.natAbs<10^152)(hb:b.natAbs<10^152):(a-b).natAbs<10^160:=by
 have h:=ahG a b;omega
def zo(ha:0<a)(hb:0<b):a*b≠0:=Int.ne_of_gt (abm ha hb)
noncomputable def GU:SpM:=Jk addF
noncomputable def K8:SpM:=Jk subF
noncomputable def M9:SpM:=Jk mulF
section
variable {d:Type} [e:DecidableEq d]
noncomputable def addA(a:d)(x:Int):List (d×Int)->List (d×Int)
 |[]=>[(a,x)]
 |p::r=>if p.1=a then(p.1,p.2+x)::r else p::addA a x r
noncomputable def getA(a:d):List (d×Int)->Int
 |[]=>0
 |p::r=>if p.1=a then p.2 else getA a r
noncomputable def kvA(enc:d->dL)(L:List (d×Int)):List (dL×dL):=L.map λp=>(enc p.1,.int p.2)
theorem sE{enc:d->dL}(f:∀a b,aah (enc a) (enc b)=decide (a=b))(a:d):∀L:List (d×Int),(dY (enc a) (kvA enc L)).getD (.int 0) = .int (getA a L)
 |[]=>rfl
 |p::r=>by
  show(if aah _ _=true then some _ else dY _ (kvA enc r)).getD _ = .int (if p.1=a then p.2 else getA a r);rw[f]
  by_cases c:p.1=a
  .rw[if_pos c,if_pos (decide_eq_true c)];rfl
  .rw[if_neg c,if_neg (by rw[decide_eq_false c];decide)];exact sE f a r
theorem z7{enc:d->dL}(f:∀a b,aah (enc a) (enc b)=decide (a=b))(a:d)(x:Int):∀L:List (d×Int),putP (enc a) (.int (getA a L+x)) (kvA enc L)=kvA enc (addA a x L)
 |[]=>by show [(enc a,abi (0+x))]=_;rw[aen];rfl
 |p::r=>by
  show(if aah _ _=true then(enc p.1,abi ((if p.1=a then p.2 else getA a r)+x))::kvA enc r else _::putP _ (.int ((if p.1=a then p.2 else getA a r)+x)) (kvA enc r))=kvA enc (if p.1=a then _::r else p::addA a x r);rw[f]
  by_cases c:p.1=a
  .rw[if_pos c,if_pos c,if_pos (decide_eq_true c)];rfl
  .rw[if_neg c,if_neg c,if_neg (by rw[decide_eq_false c];decide),z7 f a x r];rfl
theorem oM(a:d)(x:Int):∀L:List (d×Int),(addA a x L).length≤L.length+1
 |[]=>Ad _
 | p::r=>by
  unfold addA;split
  .simp
  .have:=oM a x r
   grind
end
noncomputable abbrev Pt:=List Nat×Nat
noncomputable def ptD(p:Pt):dL:=stD p.1 p.2
theorem vk:∀{a b:List Nat},natD a=natD b->a=b
 |[],[],_=>rfl
 |x::a,y::b,h=>by
  simp[natD]at h;rw[show x=y by omega,vk h.2]
 |[],_::_,h=>nomatch h
 |_::_,[],h=>nomatch h
theorem FV(p:Pt):hkD (ptD p)=true:=by
 have c:∀l:List Nat,hkA (natD l)=true:=λl=>by
  induction l with
  |nil=>rfl
  |cons x l i=>show(hkD _&&hkA (natD l))=true;rw[i];rfl
 show(hkD _&&_)=true;rw[show hkD (lnD p.1)=true from c p.1];rfl
theorem jU(p q:Pt):aah (ptD p) (ptD q)=decide (p=q):=by
 rw[oZ _ _ (FV p) (FV q)];refine decide_eq_decide.mpr ⟨λh=>?_,λh=>by rw[h]⟩;have c:=by injection h
 simp at c;have d:=by have:=c.1;injection this
 exact Prod.ext (vk d) (by omega)
noncomputable instance decWd:DecidableEq Wd:=λa b=>by cases a<;>cases b<;>first|exact isTrue rfl|exact isFalse (λh=>nomatch h)
def Fo(p q:Wd):aah (.str p.s) (.str q.s)=decide (p=q):=by cases p<;>cases q<;>decide
noncomputable def wdD(w:Wd):dL:=.str w.s
noncomputable abbrev Ms:=List (Mv×Int)
noncomputable def msD(M:Ms):List dL:=M.map λp=>.tuple [p.1.d,.int p.2]
noncomputable def goW1(h:Hall)(r:Rule)(p:Pt)(w:Int)(q:Mv×Int)(x:List (Pt×Int)×List (Wd×Int)):List (Pt×Int)×List (Wd×Int):=
 (addA ((cK h r p.1 p.2 q.1).1,(cK h r p.1 p.2 q.1).2.1) (w*q.2) x.1,addA (cK h r p.1 p.2 q.1).2.2 (w*q.2) x.2)
noncomputable def goW(h:Hall)(r:Rule)(M:Ms)(x:List (Pt×Int)×List (Wd×Int))(p:Pt×Int):List (Pt×Int)×List (Wd×Int):=M.foldl (λx q=>goW1 h r p.1 p.2 q x) x
theorem sd{l:List Nat}{t:Nat}(ho:h.Ok)(S:St h r l t):kyD (stD l t)=true:=by
 have f:=FV (l,t);have lay:∀l:List Nat,aa3 (natD l)=true:=λl=>by
  have:=ki (l.map λ(x:Nat)=>(x:Int));rwa[abc]at this
 have g:∀l:List Nat,aaq (natD l)≤1:=λl=>by
  have:=lJ (l.map λ(x:Nat)=>(x:Int));rwa[abc]at this
 unfold kyD;rw[show hkD (stD l t)=true from f];have c:(stD l t).canLay0=true:=by
  show aa3 [lnD l,.int (t:Int)]=true;simp only[aa3,aaT];exact⟨lay l,rfl,trivial⟩
 rw[c];have d:(stD l t).depth≤7:=by
  show max (aaq (natD l)+1) (max (abi (t:Int)).depth 0)+1≤7;have e:(abi (t:Int)).depth=0:=rfl
  grind
 rw[decide_eq_true d];rfl
noncomputable def wtD(W:List (Pt×Int)):dL:=.dict (kvA ptD W)
def BI(ho:h.Ok){W:List (Pt×Int)}(c:∀p∈W,St h r p.1.1 p.1.2):kyA (kvA ptD W)=true:=by
 unfold kyA kvA;rw[adJ,ab2];exact λp hp=>sd ho (c p hp)
theorem n9{c:Type}[DecidableEq c]{a:c}{x:Int}:∀{L:List (c×Int)}{p:c×Int},p∈addA a x L->p.1=a\/∃q∈L,q.1=p.1
 |[],p,h=>by rw[aab.mp h];exact .inl rfl
 | q::r,p,h=>by
  unfold addA at h
  split at h
  .rename_i e
   cases h with
   |head=>exact .inl e
   |tail _ h=>exact .inr ⟨p,Ge _ h,rfl⟩
  .cases h with
   |head=>exact .inr ⟨_,Io,rfl⟩
   |tail _ h=>
    rcases n9 h with e|⟨d,f,e⟩
    .exact .inl e
    .exact .inr ⟨d,Ge _ f,e⟩
noncomputable abbrev Pr:=dL×Int×Nat
noncomputable def prsD(L:List Pr):List dL:=L.map λp=>.tuple [p.1,.tuple [.int p.2.1,.int (p.2.2:Int)]]
noncomputable def botL(L:List Pr):Nat:=L.foldl (λm p=>m.lcm p.2.2) 1
noncomputable def onB(L:List Pr):List dL:=L.map λp=>.tuple [p.1,.int (p.2.1*(((botL L/p.2.2:Nat)):Int))]
def yf(L:List Pr)(p:Pr):botL (L++[p])=(botL L).lcm p.2.2:=by
 unfold botL;simp
theorem u4{B:Nat}:∀{L:List Pr},(∀p∈L,p.2.2 ∣ B)->botL L ∣ B:=by
 intro L;have key:∀(L:List Pr) m,m ∣ B->(∀p∈L,p.2.2 ∣ B)->L.foldl (λm p=>m.lcm p.2.2) m ∣ B:=by
  intro L
  induction L with
  |nil=>intro m c _;exact c
  |cons p L i=>intro m c h;exact i _ (Nat.lcm_dvd c (h p Io)) λq d=>h q (Ge _ d)
 exact λh=>key L 1 (Nat.one_dvd _) h
theorem Br(h:∀p∈L,1≤p.2.2):1≤botL L:=by
 have key:∀(L:List Pr) m,1≤m->(∀p∈L,1≤p.2.2)->1≤L.foldl (λm p=>m.lcm p.2.2) m:=by
  intro L
  induction L with
  |nil=>intro m c _;exact c
  |cons p L i=>intro m c h;exact i _ (Nat.lcm_pos c (h p Io)) λq d=>h q (Ge _ d)
 exact key L 1 (Ad _) h
structure BtOk(L:List Pr)(B:Nat):Prop where
 n:L.length≤100
 d:∀p∈L,1≤p.2.2/\p.2.2 ∣ B/\p.2.1.natAbs<10^76
 b0:1≤B
 b:B<10^76
noncomputable def uu:SpM:=λas K=>∃(L:List Pr) (B:Nat),as=[.imm (.list (prsD L))]/\BtOk L B/\K (.imm (.tuple [.list (onB L),.int (botL L:Int)])) []
def BtOk.pre{B:Nat}(h:BtOk L B)(i:Nat):1≤botL (L.take i)/\botL (L.take i)<10^76:=by
 have c:∀p∈L.take i,p∈L:=λp hp=>acW hp;refine⟨Br λp hp=>(h.d p (c p hp)).1,aao (ad0 h.b0 (u4 λp hp=>(h.d p (c p hp)).2.1)) h.b⟩
def Gf(m b:Nat)(hb:1≤b):m.lcm b=m*(b/m.gcd b):=by
 exact Nat.mul_div_assoc _ (acY m b)
noncomputable def ph:SpM:=λas K=>∃(t:Int) (b:Nat),as=[.imm (.int t),.imm (.int (b:Int))]/\0<b/\t.natAbs<10^160/\b<10^160/\K (.imm (nf t (b:Int))) []
theorem uK(ha:0<a)(hb:0<b):∃n:Nat,a*b=(n:Int)/\0<n:=by
 have h:=abm ha hb;exact⟨(a*b).toNat,by omega,by omega⟩
def gC(hb:0<b):0<(nfP t b).2/\(nfP t b).2≤b/\(nfP t b).1.natAbs≤t.natAbs:=by
 have g:((t.natAbs.gcd b.natAbs):Int) ∣ b:=acn.mpr (acY _ _);have c:((t.natAbs.gcd b.natAbs):Int) ∣ t:=acn.mpr (aeI _ _);unfold nfP;rw[if_neg (by omega)];refine⟨Int.ediv_pos_of_pos_of_dvd hb (by simp) g,Int.ediv_le_self _ (by omega),?_⟩;rw[aet c];exact adp _ _
noncomputable def cb(h:Hall):Int×Int:=nfP ((h.a:Int)*1) ((h.b:Int)*((ordK h.ss.length h.ss.length).length:Int))
noncomputable def restF(h:Hall):Nat->Int×Int
 |0=>nfP (1*(h.b:Int)-(h.a:Int)*1) (1*(h.b:Int))
 |k+1=>match h.ss[k]? with
  |some s=>nfP ((restF h k).1*(s.b:Int)-(s.a:Int)*(restF h k).2) ((restF h k).2*(s.b:Int))
  |none=>restF h k
theorem t8(ho:h.Ok)(g:0<(ordK h.ss.length h.ss.length).length):FrOk (cb h).1 (cb h).2:=by
 have a2:=ho.a2;have b1:=ho.b1;have b2:=ho.b2;have n:=(cn h.ss.length ho.n4 h.ss.length ho.n4).1;have hb:0<h.b*((ordK h.ss.length h.ss.length).length:Int):=abm (by omega) (by omega);let⟨c,d,e⟩:=gC hb;have f:h.b*((ordK h.ss.length h.ss.length).length:Int)≤1000000*24:=afA (by omega) (by omega) (by simp) (by decide);unfold cb;exact⟨aao e (by omega),by omega,c⟩
theorem db{h:Hall}(ho:h.Ok):∀k,k≤h.ss.length->0<(restF h k).2/\(restF h k).2≤1000000^(k+1)/\(restF h k).1.natAbs≤(k+1)*1000000^(k+1)
 |0,_=>by
  have a2:=ho.a2;have b1:=ho.b1;have b2:=ho.b2;let⟨c,f,d⟩:=gC (t:=1*(h.b:Int)-(h.a:Int)*1) (b:=1*(h.b:Int)) (by omega);unfold restF;exact⟨c,by omega,aak d (by omega)⟩
 | k+1,hk=>by
  let⟨l,m,j⟩:=db ho k (by exact aaN ‹_›);have g:h.ss[k]?=some h.ss[k]:=iO (by assumption);have so:=ho.ok h.ss[k] (abr _);have sa:=so.a2;have sb:=so.b2;have s:=so.b1;have hb:0<(restF h k).2*(h.ss[k].b:Int):=abm l (by omega);let⟨c,f,d⟩:=gC (t:=(restF h k).1*(h.ss[k].b:Int)-(h.ss[k].a:Int)*(restF h k).2) hb;unfold restF;rw[g];refine⟨c,agr f ?_,aak d (aak (ahG _ _) ?_)⟩
  .rw[Int.pow_succ];exact afA m (by omega) (by simp) (by omega)
  .rw[aes,aes,aaH,aaH,adk 1000000 (k+1)];have o:(restF h k).1.natAbs*h.ss[k].b≤(k+1)*1000000^(k+1)*1000000:=aby j (by exact aaN ‹_›);have i:h.ss[k].a*(restF h k).2.natAbs≤1000000*1000000^(k+1):=aby (by exact aaN ‹_›) (by
    have e:((1000000^(k+1):Nat):Int)=(1000000:Int)^(k+1):=by rw[Int.natCast_pow];rfl
    omega)
   rw[abZ 1000000 (1000000^(k+1))]at i;rw[show(k+1+1)*(1000000^(k+1)*1000000)=(k+1)*1000000^(k+1)*1000000+1000000^(k+1)*1000000 by rw[Nat.add_mul (k+1) 1,Nat.one_mul,ab4]];omega
def ub(ho:h.Ok){k:Nat}(d:k≤h.ss.length):FrOk (restF h k).1 (restF h k).2:=by
 let⟨i,g,e⟩:=db ho k d;have n4:=ho.n4;have p:1000000^(k+1)≤1000000^5:=acu (by decide) (by omega);have j:1000000^(k+1)=((1000000^(k+1):Nat):Int):=by rw[Int.natCast_pow];rfl
 have f:(k+1)*1000000^(k+1)≤5*1000000^5:=aby (by omega) p;have c:5*1000000^5<10^76:=by decide
 refine⟨aao e (aao f c),?_,i⟩;omega
noncomputable def prF(d:dL)(p:Int×Int):Pr:=(d,p.1,p.2.toNat)
noncomputable def Cq(h:Hall)(k:Nat):List Pr:=(h.ss.take k).zipIdx.map λq=>((Mv.done q.2).d,(q.1.a:Int),q.1.b)
noncomputable def shrL(h:Hall):List Pr:=(ordK h.ss.length h.ss.length).map (λo=>prF (Mv.come o).d (cb h))++Cq h h.ss.length++if 0<(restF h h.ss.length).1 then [prF Mv.still.d (restF h h.ss.length)]else []
noncomputable def u5:SpM:=λas K=>∃h:Hall,as=[.imm h.d]/\h.Ok/\K (.new (prsD (shrL h))) []
noncomputable def Fg:SpM:=λas K=>∃h:Hall,as=[.imm h.d]/\h.Ok/\K (.new ((ordK h.ss.length h.ss.length).map lnD)) []
def dG:∀n≤4,0<(ordK n n).length:=by decide +kernel
noncomputable def g9(h:Hall):List dL:=(ordK h.ss.length h.ss.length).map λo=>.tuple [(Mv.come o).d,nf ((h.a:Int)*1) ((h.b:Int)*((ordK h.ss.length h.ss.length).length:Int))]
noncomputable def jz(h:Hall)(k:Nat):List dL:=(aaw k).map λi=>.tuple [(Mv.done i).d,.tuple [.int ((h.ss.getD i ⟨0,0,0⟩).a:Int),.int ((h.ss.getD i ⟨0,0,0⟩).b:Int)]]
noncomputable def rsD(h:Hall)(k:Nat):dL:=.tuple [.int (restF h k).1,.int (restF h k).2]
def vE(h:Hall)(k:Nat):jz h (k+1)=jz h k++[.tuple [(Mv.done k).d,.tuple [.int ((h.ss.getD k ⟨0,0,0⟩).a:Int),.int ((h.ss.getD k ⟨0,0,0⟩).b:Int)]]]:=by
 unfold jz;rw[acU,aaE];rfl
def zQ(a b:List Pr):prsD (a++b)=prsD a++prsD b:=by unfold prsD;rw[aaE]
theorem QV{d:dL}{p:Int×Int}(hp:0<p.2):prsD [prF d p]=[.tuple [d,.tuple [.int p.1,.int p.2]]]:=by
 show [acX [d,.tuple [.int p.1,.int p.2.toNat]]]=_
 grind
def Jx(ho:h.Ok):prsD ((ordK h.ss.length h.ss.length).map λo=>prF (Mv.come o).d (cb h))=g9 h:=by
 unfold prsD g9;rw[abc];rfl
theorem Ju(h:Hall):prsD (Cq h h.ss.length)=jz h h.ss.length:=by
 unfold prsD Cq jz;rw[ abc];refine abD λi=>?_;rw[GE,GE,agS]
 by_cases c:i<h.ss.length
 .simp_all
 .simp_all
def ML(ho:h.Ok):prsD (shrL h)=g9 h++jz h h.ss.length++if 0<(restF h h.ss.length).1 then [.tuple [Mv.still.d,rsD h h.ss.length]]else []:=by
 unfold shrL;rw[zQ,zQ,Jx ho,Ju]
 congr 1
 split
 .exact QV (db ho h.ss.length (Ad _)).1
 .rfl
def Bz{i:Nat}{s:Srv}(e:h.ss[i]?=some s):rsD h (i+1)=subF (restF h i).1 (restF h i).2 (s.a:Int) (s.b:Int):=by
 unfold rsD;rw[restF,e];rfl
noncomputable def shrM(h:Hall):List (Mv×Int×Nat):=(ordK h.ss.length h.ss.length).map (λo=>(Mv.come o,(cb h).1,(cb h).2.toNat))++(h.ss.zipIdx.map λq=>(Mv.done q.2,(q.1.a:Int),q.1.b))++if 0<(restF h h.ss.length).1 then [(Mv.still,(restF h h.ss.length).1,(restF h h.ss.length).2.toNat)]else []
def jo(h:Hall):shrL h=(shrM h).map λq=>(q.1.d,q.2):=by
 unfold shrL shrM Cq;rw[aaE,aaE,abc,abc,Ld]
 split<;>rfl
noncomputable def botH(h:Hall):Nat:=botL (shrL h)
noncomputable def msL(h:Hall):Ms:=(shrM h).map λq=>(q.1,q.2.1*((botH h/q.2.2:Nat):Int))
def Og(h:Hall):onB (shrL h)=msD (msL h):=by
 unfold onB msD msL botH;rw[jo,abc,abc];rfl
def ve:∀n≤4,1≤n->∀o∈ordK n n,o≠[]/\o.length≤4/\∀k∈o,k<n:=by decide +kernel
def jI{q:Mv×Int×Nat}(c:q∈shrM h):(∃o∈ordK h.ss.length h.ss.length,q=(Mv.come o,(cb h).1,(cb h).2.toNat))\/(∃i,∃hi:i<h.ss.length,q=(Mv.done i,(h.ss[i].a:Int),h.ss[i].b))\/q=(Mv.still,(restF h h.ss.length).1,(restF h h.ss.length).2.toNat):=by
 obtain c|c:=aaO.mp c
 .obtain c|c:=aaO.mp c
  .obtain⟨o,ho,rfl⟩:=aae.mp c;exact .inl ⟨o,ho,rfl⟩
  .obtain⟨z,hz,rfl⟩:=aae.mp c;let⟨i,hi,e⟩:=aa0.mp hz;rw[adm]at hi;refine .inr (.inl ⟨i,hi,?_⟩);rw[ag7]at e;rw[<-e];simp
 .split at c
  .exact .inr (.inr (aab.mp c))
  .cases c
def JV(ho:h.Ok):∀q∈shrM h,q.1.Ok h:=λq e=>by
 rcases jI e with⟨o,c,rfl⟩|⟨i,d,rfl⟩|rfl
 .obtain⟨h1,h2,h3⟩:=ve h.ss.length ho.n4 ho.n1 o c;exact⟨h1,h3,h2⟩
 .exact d
 .exact trivial
theorem ox(hb:0<b):(nfP t b).2.toNat ∣ b.toNat:=by
 have f:((t.natAbs.gcd b.natAbs:Nat):Int) ∣ b:=acn.mpr (acY _ _);let⟨c,d⟩:=f;have i:0<t.natAbs.gcd b.natAbs:=abC _ (by omega);unfold nfP;generalize k:t.natAbs.gcd b.natAbs=g at *;have e:b/g=c:=by rw[d];exact ad1 _ (by omega)
 have j:0<c:=by
  rcases Int.lt_trichotomy c 0 with z|z|z
  .have:=Int.mul_neg_of_pos_of_neg (show(0:Int)<(g:Int) by omega) z;omega
  .simp_all
  .exact z
 refine⟨g,?_⟩
 grind
noncomputable def bP:List Srv->Nat
 |[]=>1
 |s::r=>s.b*bP r
theorem rG:∀(l:List Srv) (s:Srv),bP (l++[s])=bP l*s.b
 |[],s=>by show s.b*1=1*s.b;simp
 |x::l,s=>by show x.b*bP (l++[s])=x.b*bP l*s.b;rw[rG l s,ab4]
theorem DY:∀{l:List Srv}{s:Srv},s∈l->s.b ∣ bP l
 |x::l,s,h=>by
  cases h with
  |head=>exact ahH _ _
  |tail _ h=>exact ab5 (DY h) (acM _ _)
theorem Di:∀{l:List Srv},(∀s∈l,s.Ok)->1≤bP l/\bP l≤1000000^l.length
 |[],_=>⟨Ad 1,Ad 1⟩
 |x::l,h=>by
  let⟨e,d⟩:=Di λs hs=>h s (Ge _ hs);have c:=h x Io;have b1:=c.b1;have b2:=c.b2;refine⟨adF b1 e,?_⟩;show x.b*bP l≤1000000^_;rw[ abZ];exact aby d (by exact aaN ‹_›)
theorem vg{h:Hall}(ho:h.Ok):∀k,k≤h.ss.length->(restF h k).2.toNat ∣ h.b*bP (h.ss.take k)
 |0,_=>by
  have b1:=ho.b1;have:=ox (t:=1*(h.b:Int)-(h.a:Int)*1) (b:=1*(h.b:Int)) (by omega);rw[show(1*(h.b:Int)).toNat=h.b by simp]at this;show(nfP _ _).2.toNat ∣ h.b*1;rw[ahZ];exact this
 | k+1,hk=>by
  have c:=vg ho k (by omega);have i:=(db ho k (by omega)).1;have e:h.ss[k]?=some h.ss[k]:=iO (by omega);have so:=ho.ok h.ss[k] (abr _);have s:=so.b1;have hb:0<(restF h k).2*(h.ss[k].b:Int):=abm i (by omega);have d:=ox (t:=(restF h k).1*(h.ss[k].b:Int)-(h.ss[k].a:Int)*(restF h k).2) hb;have f:((restF h k).2*(h.ss[k].b:Int)).toNat=(restF h k).2.toNat*h.ss[k].b:=by
   grind
  rw[f]at d;rw[restF,e,abX,e];show(nfP _ _).2.toNat ∣ h.b*bP (h.ss.take k++[h.ss[k]]);rw[rG,<-ab4];exact ab5 d (Nat.mul_dvd_mul c (ahI _))
theorem jq(ho:h.Ok):BtOk (shrL h) ((ordK h.ss.length h.ss.length).length*(h.b*bP h.ss)):=by
 have n4:=ho.n4;have b1:=ho.b1;have b2:=ho.b2;have a2:=ho.a2;have m:=(cn h.ss.length ho.n4 h.ss.length ho.n4).1;have c:=dG h.ss.length ho.n4;let⟨l,j⟩:=Di ho.ok;have g:bP h.ss≤1000000^4:=aak j (acu (by decide) n4);refine⟨?_,?_,adF c (adF b1 l),?_⟩
 .rw[jo,gE];unfold shrM;rw[aaj,aaj,gE,gE,adm]
  split<;>simp only[aaG,agy]<;>omega
 .intro p hp;rw[jo]at hp;let⟨q,s,rfl⟩:=aae.mp hp;rcases jI s with⟨o,u,rfl⟩|⟨i,f,rfl⟩|rfl
  .have e:=t8 ho c;have hb:0<(h.b:Int)*((ordK h.ss.length h.ss.length).length:Int):=abm (by omega) (by omega);have d:=ox (t:=(h.a:Int)*1) hb;rw[show((h.b:Int)*((ordK h.ss.length h.ss.length).length:Int)).toNat=h.b*(ordK h.ss.length h.ss.length).length by rw[<-aap,aaM]]at d;refine⟨by have:=e.hp;show 1≤(cb h).2.toNat;omega,?_,e.ha⟩;rw[abZ h.b,]at d;exact ab5 d (by rw[<-ab4];exact ahH _ _)
  .have so:=ho.ok h.ss[i] (abr _);have sa:=so.a2;refine⟨so.b1,ab5 (DY (abr f)) (ab5 (acM _ _) (acM _ _)),?_⟩;show((h.ss[i].a:Nat):Int).natAbs<10^76;omega
  .have e:=ub ho (k:=h.ss.length) (Ad _);have d:=vg ho h.ss.length (Ad _);rw[Ld]at d;exact⟨by have:=e.hp;show 1≤(restF h h.ss.length).2.toNat;omega,ab5 d (acM _ _),e.ha⟩
 .have m1:h.b*bP h.ss≤1000000*1000000^4:=aby (by exact aaN ‹_›) g;have m2:=aby m m1;exact aao m2 (by decide)
theorem IW(ho:h.Ok):(msL h).length≤29/\∀q∈msL h,q.1.Ok h/\q.2.natAbs<10^160:=by
 have n4:=ho.n4;have i:=(cn h.ss.length ho.n4 h.ss.length ho.n4).1;have B:=jq ho;have g:botH h<10^76:=by have:=B.pre (shrL h).length;rw[Ld]at this;exact this.2
 constructor
 .unfold msL shrM;rw[gE,aaj,aaj,gE,gE,adm]
  grind
 .intro q hq;let⟨z,c,rfl⟩:=aae.mp hq;have d:=B.d (z.1.d,z.2) (by rw[jo];exact aae.mpr ⟨z,c,rfl⟩);refine⟨JV ho z c,?_⟩;have f:=d.2.2;have e:(((botH h/z.2.2:Nat):Int)).natAbs<10^76:=by rw[aaH];exact aao (adp _ _) g
  exact rL (fX f e)
def kI(L:List (Wd×Int)):isKd (kvA wdD L)=true:=by
 unfold kvA;rw[oh,adJ];exact ab2.mpr λ_ _=>rfl
noncomputable def qq:SpM:=λas K=>∃(h:Hall) (r:Rule) (W:List (Pt×Int)),as=[.imm h.d,.imm r.d,.imm (wtD W)]/\h.Ok/\r.Ok h/\(∀p∈W,St h r p.1.1 p.1.2/\p.2.natAbs<10^160)/\W.length≤100000/\K (.imm (.tuple [wtD (W.foldl (goW h r (msL h)) ([],[])).1,.dict (kvA wdD (W.foldl (goW h r (msL h)) ([],[])).2),.int (botH h:Int)])) []
structure GoOk(h:Hall)(r:Rule)(n:Nat)(x:List (Pt×Int)×List (Wd×Int)):Prop where
 st:∀p∈x.1,St h r p.1.1 p.1.2
 n1:x.1.length≤n
 n2:x.2.length≤n
def GoOk.next{x:List (Pt×Int)×List (Wd×Int)}(ho:h.Ok)(hr:r.Ok h)(X:GoOk h r n x){p:Pt}(hp:St h r p.1 p.2)(w:Int){q:Mv×Int}(f:q.1.Ok h):GoOk h r (n+1) (goW1 h r p w q x):=by
 refine⟨λz g=>?_,aak (oM _ _ _) (agT X.n1 1),aak (oM _ _ _) (agT X.n2 1)⟩;rcases n9 g with e|⟨d,c,e⟩
 .rw[e];exact nH ho hr hp f
 .rw[<-e];exact X.st d c
theorem GoOk.all{h:Hall}{r:Rule}(ho:h.Ok)(hr:r.Ok h){p:Pt}(hp:St h r p.1 p.2)(w:Int):∀{M:Ms}{n:Nat}{x:List (Pt×Int)×List (Wd×Int)},(∀q∈M,q.1.Ok h)->GoOk h r n x->GoOk h r (n+M.length) (M.foldl (λx q=>goW1 h r p w q x) x)
 |[],_,_,_,X=>X
 |q::M,n,x,hM,X=>by
  have:=GoOk.all ho hr hp w (M:=M) (λz c=>hM z (Ge _ c)) (X.next ho hr hp w (hM q Io));rw[show n+(q::M).length=n+1+M.length by simp only[aaG];omega];exact this
noncomputable def stW(h:Hall)(r:Rule):Nat->List (Pt×Int)
 |0=>[((zer h,0),1)]
 |k+1=>((stW h r k).foldl (goW h r (msL h)) ([],[])).1
noncomputable def wdW(h:Hall)(r:Rule)(k:Nat):List (Wd×Int):=((stW h r k).foldl (goW h r (msL h)) ([],[])).2
noncomputable def cntW(h:Hall)(r:Rule)(w:Wd):Nat->Int
 |0=>0
 |k+1=>cntW h r w k*(botH h:Int)+getA w (wdW h r k)
structure MnOk(h:Hall)(r:Rule)(n:Nat):Prop where
 l:∀k≤n,(stW h r k).length≤100000
 w:∀k≤n,∀p∈stW h r k,p.2.natAbs<10^90
 b:∀k≤n,botH h^k<10^90
 s:∀w,∀k≤n,(cntW h r w k).natAbs<10^90
theorem mh{h:Hall}{r:Rule}(ho:h.Ok)(hr:r.Ok h):∀k,∀p∈stW h r k,St h r p.1.1 p.1.2
 |0,p,hp=>by rw[aab.mp hp];exact mj ho r
 | k+1,p,hp=>by
  have f:=mh ho hr k;have key:∀(W:List (Pt×Int)) (n:Nat) (x:List (Pt×Int)×List (Wd×Int)),(∀p∈W,St h r p.1.1 p.1.2)->GoOk h r n x->∃d,GoOk h r d (W.foldl (goW h r (msL h)) x):=by
   intro W
   induction W with
   |nil=>intro n x _ X;exact⟨n,X⟩
   |cons q W i=>
    intro n x e X;exact i _ _ (λz c=>e z (Ge _ c)) (GoOk.all ho hr (e q Io) q.2 (λz c=>((IW ho).2 z c).1) X)
  let⟨d,X⟩:=key (stW h r k) 0 ([],[]) f ⟨λ_ hp=>(by cases hp),Ad _,Ad _⟩;exact X.st p hp
noncomputable def mw:SpM:=λas K=>∃h:Hall,as=[.imm h.d]/\h.Ok/\K (.imm (stD (zer h) 0)) []
noncomputable def Fw:SpM:=λas K=>∃n:Nat,as=[.imm (.int (n:Int))]/\n≤4/\K (.new ((ordK n n).map lnD)) []
def cc(hb:0<b):(nfP t b).1*b=t*(nfP t b).2:=by
 have j:((t.natAbs.gcd b.natAbs):Int) ∣ b:=acn.mpr (acY _ _);have e:((t.natAbs.gcd b.natAbs):Int) ∣ t:=acn.mpr (aeI _ _);have k:0<t.natAbs.gcd b.natAbs:=abC _ (by omega);unfold nfP;rw[if_neg (by omega)];generalize t.natAbs.gcd b.natAbs=g at *;let⟨x,c⟩:=e;let⟨y,d⟩:=j;have f:t/g=x:=by rw[c];exact ad1 _ (by omega)
 have i:b/g=y:=by rw[d];exact ad1 _ (by omega)
 rw[f,i,c,d];simp[ab7,abn]
noncomputable def vF(D:Nat)(n:Int)(d:Nat):Int:=n*((D/d:Nat):Int)
def mr{D d:Nat}{n:Int}(hd:d ∣ D)(e:n*b=t*(d:Int)):vF D n d*b=t*(D:Int):=by
 have c:D=d*((D/d:Nat):Int):=by rw[<-aap,ag8 hd]
 calc n*_*b=(n*b)*((D/d:Nat)):=by simp only[ab7,abn,abp]
  _=t*_:=by rw[e,c];simp only[ abp]
theorem iq{p:Pr}(hp:p∈L):p.2.2 ∣ botL L:=by
 have keep:∀(L:List Pr) (m:Nat),m ∣ L.foldl (λm p=>m.lcm p.2.2) m:=by
  intro L
  induction L with
  |nil=>intro m;exact ahI _
  |cons x L i=>intro m;exact ab5 (Nat.dvd_lcm_left _ _) (i _)
 have key:∀(L:List Pr) m,p∈L->p.2.2 ∣ L.foldl (λm p=>m.lcm p.2.2) m:=by
  intro L
  induction L with
  |nil=>intro m h;cases h
  |cons x L i=>
   intro m h
   cases h with
   |head=>exact ab5 (Nat.dvd_lcm_right _ _) (keep _ _)
   |tail _ h=>exact i _ h
 exact key L 1 hp
noncomputable def tT(h:Hall):Nat->Int
 |0=>(h.b:Int)-(h.a:Int)
 |k+1=>match h.ss[k]? with
  |some s=>tT h k*(s.b:Int)-(s.a:Int)*((h.b*bP (h.ss.take k):Nat):Int)
  |none=>tT h k
def xi{k:Nat}(c:k<h.ss.length):bP (h.ss.take (k+1))=bP (h.ss.take k)*h.ss[k].b:=by
 rw[abX,iO c];exact rG _ _
theorem gv{h:Hall}(ho:h.Ok):∀k,k≤h.ss.length->(restF h k).1*((h.b*bP (h.ss.take k):Nat):Int)=tT h k*(restF h k).2
 |0,_=>by
  have b1:=ho.b1;have:=cc (t:=1*(h.b:Int)-(h.a:Int)*1) (b:=1*(h.b:Int)) (by omega);rw[restF,tT];show _*((h.b*1:Nat):Int)=_;rw[ahZ];rw[afM,aeS]at this;rw[afM,aeS];exact this
 |k+1,hk=>by
  have f:=gv ho k (by omega);have i:=(db ho k (by omega)).1;have e:h.ss[k]?=some h.ss[k]:=iO (by omega);have so:=ho.ok h.ss[k] (abr _);have s:=so.b1;have hb:0<(restF h k).2*(h.ss[k].b:Int):=abm i (by omega);have c:=cc (t:=(restF h k).1*(h.ss[k].b:Int)-(h.ss[k].a:Int)*(restF h k).2) hb;rw[restF,tT,e,xi (by omega)];show(nfP _ _).1*_=(tT h k*(h.ss[k].b:Int)-(h.ss[k].a:Int)*_)*(nfP _ _).2;generalize nfP ((restF h k).1*(h.ss[k].b:Int)-(h.ss[k].a:Int)*(restF h k).2) ((restF h k).2*(h.ss[k].b:Int))=z at *;rw[<-ab4,aap (h.b*bP (h.ss.take k))];generalize ((h.b*bP (h.ss.take k):Nat):Int)=P at *;generalize (h.ss[k].b:Int)=B at *;generalize (h.ss[k].a:Int)=S at *;generalize (restF h k).1=r1 at *;generalize (restF h k).2=d at *;generalize tT h k=T at *;refine Int.eq_of_mul_eq_mul_left (a:=d) (by omega) ?_
  grind
noncomputable def dnS(h:Hall)(D:Nat):Nat->Int
 |0=>0
 |k+1=>match h.ss[k]? with
  |some s=>dnS h D k+vF D (s.a:Int) s.b
  |none=>dnS h D k
theorem iP{h:Hall}(ho:h.Ok){D:Nat}{C:Int}(e:C*(h.b:Int)=(h.a:Int)*(D:Int))(f:∀s∈h.ss,s.b ∣ D):∀k,k≤h.ss.length->((D:Int)-C-dnS h D k)*((h.b*bP (h.ss.take k):Nat):Int)=tT h k*(D:Int)
 |0,_=>by
  rw[dnS,tT];show _*((h.b*1:Nat):Int)=_;rw[ahZ,Int.sub_zero,Int.sub_mul,Int.sub_mul,e,ab7 (D:Int)]
 |k+1,hk=>by
  have i:=iP ho e f k (by exact aaN ‹_›);have g:h.ss[k]?=some h.ss[k]:=iO (by assumption);have c:=mr (D:=D) (d:=h.ss[k].b) (t:=(h.ss[k].a:Int)) (f _ (abr _)) rfl;rw[dnS,tT,g,xi (by assumption)]
  grind
theorem Mf(h:Hall)(D:Nat):((h.ss.zipIdx.map λq=>((q.1.a:Int)*((D/q.1.b:Nat):Int))).sum)=dnS h D h.ss.length:=by
 have key:∀k,k≤h.ss.length->(((h.ss.take k).map λs=>((s.a:Int)*((D/s.b:Nat):Int))).sum)=dnS h D k:=by
  intro k
  induction k with
  |zero=>intro _;rfl
  |succ k d=>
   intro f;have c:h.ss[k]?=some h.ss[k]:=iO _;rw[dnS,c,abX,c,aaE,ad3,d (by omega)];rfl
 have e:=key h.ss.length (Ad _);rw[Ld]at e;rw[<-e]
 congr 1
 refine abD λi=>?_;rw[GE,GE,agS]
 cases h.ss[i]?<;>rfl
theorem o5{d:Type}(c:Int):∀l:List d,(l.map λ_=>c).sum=(l.length:Int)*c
 |[]=>by simp
 |x::l=>by rw[aar,aco,o5 c l,aaG];grind
theorem Av(ho:h.Ok)(h0:0≤(restF h h.ss.length).1):((msL h).map (·.2)).sum=(botH h:Int):=by
 have b1:=ho.b1;have p:=dG h.ss.length ho.n4;have B:=jq ho;have bp:1≤botH h:=by have:=B.pre (shrL h).length;rw[Ld]at this;exact this.1
 have m:∀o∈ordK h.ss.length h.ss.length,prF (Mv.come o).d (cb h)∈shrL h:=λo j=>by
  unfold shrL;exact aaO.mpr (.inl (aaO.mpr (.inl (aae.mpr ⟨o,j,rfl⟩))))
 have g:(cb h).2.toNat ∣ botH h:=by
  let⟨o,j⟩:=List.exists_mem_of_length_pos p;exact iq (m o j)
 have f:0<(h.b:Int)*((ordK h.ss.length h.ss.length).length:Int):=abm (by omega) (by omega);have C:=t8 ho p;have k:vF (botH h) (cb h).1 (cb h).2.toNat*((h.b:Int)*((ordK h.ss.length h.ss.length).length:Int))=(h.a:Int)*1*(botH h:Int):=by
  refine mr g ?_;rw[show(((cb h).2.toNat:Nat):Int)=(cb h).2 by have:=C.hp;rfl];exact cc f
 have w:(((ordK h.ss.length h.ss.length).length:Int)*vF (botH h) (cb h).1 (cb h).2.toNat)*(h.b:Int)=(h.a:Int)*(botH h:Int):=by
  rw[aeS]at k;rw[<-k];simp only[ab7,abn,abp]
 have E:∀s∈h.ss,s.b ∣ botH h:=λs hs=>by
  let⟨i,y,rfl⟩:=aa0.mp hs;have:((Mv.done i).d,(h.ss[i].a:Int),h.ss[i].b)∈shrL h:=by
   rw[jo];refine aae.mpr ⟨(Mv.done i,(h.ss[i].a:Int),h.ss[i].b),?_,rfl⟩;unfold shrM;refine aaO.mpr (.inl (aaO.mpr (.inr (aae.mpr ⟨(h.ss[i],i),?_,rfl⟩))));exact aa0.mpr ⟨i,by rw[adm];exact y,by rw[ag7,abK]⟩
  exact iq this
 have l:=iP ho w E h.ss.length (Ad _);have d:=gv ho h.ss.length (Ad _);let⟨G,_⟩:=Di ho.ok;rw[Ld]at l d;have P:0<((h.b*bP h.ss:Nat):Int):=by have:=adF b1 G;omega
 have x:((msL h).map (·.2)).sum=((ordK h.ss.length h.ss.length).length:Int)*vF (botH h) (cb h).1 (cb h).2.toNat+dnS h (botH h) h.ss.length+if 0<(restF h h.ss.length).1 then vF (botH h) (restF h h.ss.length).1 (restF h h.ss.length).2.toNat else 0:=by
  unfold msL shrM;rw[abc,aaE,aaE,ad3,ad3,abc,abc]
  congr 1
  .congr 1
   .exact o5 (vF (botH h) (cb h).1 (cb h).2.toNat) (ordK h.ss.length h.ss.length)
   .exact Mf h (botH h)
  .split
   .simp[vF]
   .rfl
 rw[x];have H:=(db ho h.ss.length (Ad _)).1
 by_cases c:0<(restF h h.ss.length).1
 .rw[if_pos c];have e:(restF h h.ss.length).2.toNat ∣ botH h:=by
   have:prF Mv.still.d (restF h h.ss.length)∈shrL h:=by
    unfold shrL;rw[if_pos c];exact aaO.mpr (.inr (aab.mpr rfl))
   exact iq this
  have A:=mr (D:=botH h) (n:=(restF h h.ss.length).1) (t:=tT h h.ss.length) (b:=((h.b*bP h.ss:Nat):Int)) e (by rw[d,show(((restF h h.ss.length).2.toNat:Nat):Int)=(restF h h.ss.length).2 by omega]);have:=acR (a:=((h.b*bP h.ss:Nat):Int)) (by omega) (A.trans l.symm);omega
 .rw[if_neg c];have F:(restF h h.ss.length).1=0:=by omega
  rw[F,aeu]at d;have u:tT h h.ss.length=0:=by
   rcases Int.mul_eq_zero.mp d.symm with z|z
   .exact z
   .omega
  rw[u,aeu]at l;rcases Int.mul_eq_zero.mp l with z|z
  .omega
  .omega
noncomputable def sumA{c:Type}(L:List (c×Int)):Int:=(L.map (·.2)).sum
theorem iz{c:Type}[DecidableEq c](a:c)(x:Int):∀L:List (c×Int),sumA (addA a x L)=sumA L+x
 |[]=>by show x+0=0+x;simp
 |p::r=>by
  have i:=iz a x r;unfold addA;split
  .show p.2+x+sumA r=p.2+sumA r+x;omega
  .show p.2+sumA _=p.2+sumA r+x;omega
theorem jZ{c:Type}[DecidableEq c]{a:c}{x:Int}(d:0≤x):∀{L:List (c×Int)},(∀p∈L,0≤p.2)->∀p∈addA a x L,0≤p.2
 |[],_,p,hp=>by rw[aab.mp hp];exact d
 | q::r,h,p,hp=>by
  have e:=h q Io;unfold addA at hp
  split at hp
  .cases hp with
   |head=>show 0≤q.2+x;omega
   |tail _ hp=>exact h p (Ge _ hp)
  .cases hp with
   |head=>exact e
   |tail _ hp=>exact jZ d (λz f=>h z (Ge _ f)) p hp
theorem xg{h:Hall}{r:Rule}{p:Pt}{w:Int}:∀{M:Ms}{x:List (Pt×Int)×List (Wd×Int)},sumA (M.foldl (λx q=>goW1 h r p w q x) x).1=sumA x.1+w*(M.map (·.2)).sum/\sumA (M.foldl (λx q=>goW1 h r p w q x) x).2=sumA x.2+w*(M.map (·.2)).sum
 |[],x=>by constructor<;>(show sumA _=sumA _+w*0;rw[ahJ,ags];rfl)
 |q::M,x=>by
  let⟨c,i⟩:=xg (r:=r);rw[acA,c,i];unfold goW1;rw[iz,iz,aar,aco,Int.mul_add]
  grind
theorem Aw{h:Hall}{r:Rule}:∀{W:List (Pt×Int)}{x:List (Pt×Int)×List (Wd×Int)},sumA (W.foldl (goW h r (msL h)) x).1=sumA x.1+sumA W*((msL h).map (·.2)).sum/\sumA (W.foldl (goW h r (msL h)) x).2=sumA x.2+sumA W*((msL h).map (·.2)).sum
 |[],x=>by constructor<;>(show sumA _=sumA _+0*_;rw[aeu,ags];rfl)
 |p::W,x=>by
  let⟨c,i⟩:=Aw (W:=W);let⟨d,j⟩:=xg (h:=h) (r:=r) (x:=x);rw[acA,c,i];rw[show goW h r (msL h) x p=(msL h).foldl _ x from rfl,d,j];rw[show sumA (p::W)=p.2+sumA W from rfl,aeY];omega
theorem me{h:Hall}(ho:h.Ok)(h0:0≤(restF h h.ss.length).1)(r:Rule):∀k,sumA (stW h r k)=((botH h^k:Nat):Int)
 |0=>rfl
 |k+1=>by
  rw[stW,Aw.1,Av ho h0,me ho h0 r k,adk,aap];show 0+_=_;omega
def OT(ho:h.Ok)(h0:0≤(restF h h.ss.length).1)(r:Rule)(k:Nat):sumA (wdW h r k)=((botH h^(k+1):Nat):Int):=by
 rw[wdW,Aw.2,Av ho h0,me ho h0 r k,adk,aap];show 0+_=_;omega
theorem Ko(ho:h.Ok)(h0:0≤(restF h h.ss.length).1):∀q∈msL h,0≤q.2:=λq c=>by
 let⟨z,d,rfl⟩:=aae.mp c;refine adb ?_ (ad9 _);rcases jI d with⟨o,e,rfl⟩|⟨i,f,rfl⟩|rfl
 .show 0≤(cb h).1;unfold cb nfP
  grind
 .simp
 .omega
theorem JX{h:Hall}{r:Rule}{M:Ms}(c:∀q∈M,0≤q.2){p:Pt}{w:Int}(d:0≤w):∀{N:Ms}{x:List (Pt×Int)×List (Wd×Int)},(∀q∈N,q∈M)->(∀z∈x.1,0≤z.2)/\(∀z∈x.2,0≤z.2)->(∀z∈(N.foldl (λx q=>goW1 h r p w q x) x).1,0≤z.2)/\∀z∈(N.foldl (λx q=>goW1 h r p w q x) x).2,0≤z.2
 |[],x,_,hx=>hx
 |q::N,x,hN,hx=>JX c d (N:=N) (λz e=>hN z (Ge _ e)) ⟨jZ (adb d (c q (hN q Io))) hx.1,jZ (adb d (c q (hN q Io))) hx.2⟩
theorem xM{h:Hall}(ho:h.Ok)(h0:0≤(restF h h.ss.length).1)(r:Rule):∀{W:List (Pt×Int)}{x:List (Pt×Int)×List (Wd×Int)},(∀z∈W,0≤z.2)->(∀z∈x.1,0≤z.2)/\(∀z∈x.2,0≤z.2)->(∀z∈(W.foldl (goW h r (msL h)) x).1,0≤z.2)/\∀z∈(W.foldl (goW h r (msL h)) x).2,0≤z.2
 |[],x,_,hx=>hx
 |p::W,x,hW,hx=>xM ho h0 r (W:=W) (λz c=>hW z (Ge _ c)) (JX (Ko ho h0) (hW p Io) (λ_ h=>h) hx)
theorem qJ{h:Hall}(ho:h.Ok)(h0:0≤(restF h h.ss.length).1)(r:Rule):∀k,∀p∈stW h r k,0≤p.2
 |0,p,hp=>by rw[aab.mp hp];exact Int.one_nonneg
 |k+1,p,hp=>(xM ho h0 r (qJ ho h0 r k) ⟨λ_ z=>(by cases z),λ_ z=>(by cases z)⟩).1 p hp
theorem gJ{c:Type}:∀{L:List (c×Int)},(∀p∈L,0≤p.2)->0≤sumA L/\∀p∈L,p.2≤sumA L
 |[],_=>⟨adG _,λ_ h=>(by cases h)⟩
 |q::L,h=>by
  let⟨d,i⟩:=gJ λp hp=>h p (Ge _ hp);have f:=h q Io;have e:sumA (q::L)=q.2+sumA L:=rfl
  grind
theorem rl{c:Type}[DecidableEq c](a:c):∀{L:List (c×Int)},(∀p∈L,0≤p.2)->0≤getA a L/\getA a L≤sumA L
 |[],_=>⟨adG 0,adG 0⟩
 |q::L,h=>by
  have i:=rl a (L:=L) λp hp=>h p (Ge _ hp);have s:=(gJ (L:=L) λp hp=>h p (Ge _ hp)).1;have d:=h q Io;have e:sumA (q::L)=q.2+sumA L:=rfl;rw[e];unfold getA
  split<;>omega
theorem FO{h:Hall}(ho:h.Ok)(h0:0≤(restF h h.ss.length).1)(r:Rule)(w:Wd):∀k,0≤cntW h r w k/\cntW h r w k≤(k:Int)*((botH h^k:Nat):Int)
 |0=>⟨adG 0,by show(0:Int)≤0*_;rw[aeu];exact adG 0⟩
 |k+1=>by
  let⟨i,c⟩:=FO ho h0 r w k;have d:=(xM ho h0 r (qJ ho h0 r k) (x:=([],[])) ⟨λ_ z=>(by cases z),λ_ z=>(by cases z)⟩).2;let⟨f,g⟩:=rl w (L:=wdW h r k) d;rw[OT ho h0 r k]at g;rw[cntW];have b0:(0:Int)≤(botH h:Int):=ad9 _;have m:=adb i b0;have m1:=aeJ c b0;refine⟨by omega,?_⟩;have e:(k:Int)*((botH h^k:Nat):Int)*(botH h:Int)=(k:Int)*((botH h^(k+1):Nat):Int):=by rw[adk,aap,abp]
  rw[e]at m1;rw[ab0,aeY];show _≤_+1*_;rw[afM];omega
theorem qe{d:Type}[DecidableEq d]{a:d}{x:Int}:∀{L:List (d×Int)},(L.map (·.1)).Nodup->((addA a x L).map (·.1)).Nodup
 |[],_=>by simp[addA]
 | q::r,h=>by
  rw[aar,aaR]at h;unfold addA;split
  .exact aaR.mpr ⟨h.1,h.2⟩
  .rename_i ne;refine aaR.mpr ⟨λg=>?_,qe h.2⟩;let⟨z,f,e⟩:=aae.mp g;rcases n9 f with c|⟨y,i,c⟩
   .exact ne (e.symm.trans c)
   .exact h.1 (aae.mpr ⟨y,i,c.trans e⟩)
theorem tj{h:Hall}{r:Rule}:∀{W:List (Pt×Int)}{x:List (Pt×Int)×List (Wd×Int)},(x.1.map (·.1)).Nodup->((W.foldl (goW h r (msL h)) x).1.map (·.1)).Nodup
 |[],x,c=>c
 | p::W,x,c=>by
  have key:∀(M:Ms) x,(x.1.map (·.1)).Nodup->((M.foldl (λx q=>goW1 h r p.1 p.2 q x) x).1.map (·.1)).Nodup:=by
   intro M
   induction M with
   |nil=>intro x c;exact c
   |cons q M i=>intro x c;exact i _ (qe c)
  exact tj (W:=W) (key _ x c)
theorem oa:∀k,((stW h r k).map (·.1)).Nodup
 |0=>by simp[stW]
 |k+1=>tj (by simp)
theorem k6{e:Type}[DecidableEq e]:∀{l m:List e},l.Nodup->(∀x∈l,x∈m)->l.length≤m.length
 |[],_,_,_=>act _
 | a::l,m,h,hs=>by
  rw[aaR]at h;have ha:=hs a Io;have i:=k6 (l:=l) (m:=m.erase a) h.2 λx d=>by
   have c:x≠a:=λz=>h.1 (z▸d);exact(List.mem_erase_of_ne c).mpr (hs x (Ge _ d))
  have:=List.length_erase_of_mem ha;have:=List.length_pos_of_mem ha;rw[aaG];omega
theorem m6:∀{rs l:List Nat},M7.Fits rs l->l∈M3.allR rs
 |[],[],_=>aab.mpr rfl
 |r::rs,x::l,h=>by
  have c:x≤r:=h.1;exact abB.mpr ⟨x,agI.mpr (by omega),aae.mpr ⟨l,m6 h.2,rfl⟩⟩
 |[],_::_,h=>h.elim
 |_::_,[],h=>h.elim
theorem D8(ho:h.Ok)(hr:r.Ok h)(k:Nat):(stW h r k).length≤100000:=by
 have sm:=gg (rs:=h.rs) (by rw[h.rsl];exact ho.n4) ho.r6;have s:∀p∈(stW h r k).map (·.1),p∈(M3.allR h.rs).flatMap λl=>[(l,0),(l,1),(l,2),(l,3)]:=λp hp=>by
  let⟨z,c,rfl⟩:=aae.mp hp;have S:=mh ho hr k z c;refine abB.mpr ⟨z.1.1,m6 S.ln.fits,?_⟩;have ts:=S.ts;let⟨⟨l,t⟩,w⟩:=z;dsimp only at ts⊢;have:t=0\/t=1\/t=2\/t=3:=by omega
  rcases this with e|e|e|e<;>rw[e]<;>simp
 have le:=k6 (oa k) s;rw[gE,List.length_flatMap]at le;have e:∀L:List (List Nat),((L.map λl=>[(l,0),(l,1),(l,2),(l,(3:Nat))].length)).sum=4*L.length:=by
  intro L
  induction L with
  |nil=>rfl
  |cons x L i=>
   show 4+((L.map λl=>[(l,0),(l,1),(l,2),(l,(3:Nat))].length)).sum=4*(L.length+1);rw[i];omega
 rw[e]at le;omega
def QG(ho:h.Ok)(hr:r.Ok h)(h0:0≤(restF h h.ss.length).1)(i:n≤100)(hb:botH h^n<10^76):MnOk h r n:=by
 have bp:1≤botH h:=by have:=(jq ho).pre (shrL h).length;rw[Ld]at this;exact this.1
 have pw:∀k≤n,botH h^k<10^76:=λk c=>aao (acu bp c) hb;have u:∀{z:Nat},z<10^76->z<10^90:=λd=>aaA d (by decide);refine⟨λk _=>D8 ho hr k,λk c p hp=>?_,λk c=>u (pw k c),λw k c=>?_⟩
 .have nn:=qJ ho h0 r k;have l:=(gJ nn).2 p hp;have g:=nn p hp;rw[me ho h0 r k]at l;have:=pw k c;refine u ?_;omega
 .obtain⟨c1,c2⟩:=FO ho h0 r w k;have f:=pw k c;have m1:(k:Int)*((botH h^k:Nat):Int)≤100*((10^76:Nat):Int):=afA (by omega) (by omega) (ad9 _) (by omega);have m2:((100*10^76:Nat):Int)=100*((10^76:Nat):Int):=by rw[aap];rfl
  have e:100*10^76<10^90:=by decide
  refine aao (m:=100*10^76) ?_ e;omega
def oT(hb:0<b):aeZ (nfP t b).1.natAbs (nfP t b).2.natAbs:=by
 have c:0<t.natAbs.gcd b.natAbs:=abC _ (by omega);have g:((t.natAbs.gcd b.natAbs):Int) ∣ b:=acn.mpr (acY _ _);have d:((t.natAbs.gcd b.natAbs):Int) ∣ t:=acn.mpr (aeI _ _);unfold nfP;rw[if_neg (by omega)];rw[aet d,aet g];exact Nat.coprime_div_gcd_div_gcd c
def tQ{p q:Int}(c:aeZ p.natAbs q.natAbs)(e:p*b=a*q):q.natAbs ∣ b.natAbs:=by
 have d:p.natAbs*b.natAbs=a.natAbs*q.natAbs:=by rw[<-aes,<-aes,e]
 have:q.natAbs ∣ b.natAbs*p.natAbs:=by rw[abZ,d];exact acM _ _
 exact aeZ.dvd_of_dvd_mul_right c.symm this
def Ls{p q f d:Int}(l:0<q)(i:0<d)(c:aeZ p.natAbs q.natAbs)(g:aeZ f.natAbs d.natAbs)(e:p*d=f*q):(p,q)=(f,d):=by
 have k:=tQ c e;have j:=tQ g e.symm;have eq:q=d:=by
  have:=Nat.dvd_antisymm k j;omega
 subst eq;rw[acR (by omega) e]
def mW{t' c:Int}(hb:0<b)(d:0<c)(e:t*c=t'*b):nfP t b=nfP t' c:=by
 refine Ls (gC hb).1 (gC d).1 (oT hb) (oT d) ?_;have i:=cc (t:=t) hb;have g:=cc (t:=t') d;have f:=zo hb d;refine acR f ?_
 calc (nfP t b).1*(nfP t' c).2*_=((nfP t b).1*b)*((nfP t' c).2*c):=by simp only[ abn,abp]
  _=t*c*((nfP t b).2*(nfP t' c).2):=by rw[i];simp only[ab7,abn,abp]
  _=(t'*(nfP t' c).2)*((nfP t b).2*b):=by rw[e];simp[ab7,abn,abp]
  _=(nfP t' c).1*(nfP t b).2*_:=by rw[<-g];simp[ab7,abn,abp]
theorem AV{w:Int}(c:0<D):nfP ((nfP v D).1*(nfP w D).2+(nfP w D).1*(nfP v D).2) ((nfP v D).2*(nfP w D).2)=nfP (v+w) D:=by
 have d:=cc (t:=v) c;have e:=cc (t:=w) c;refine mW (abm (gC c).1 (gC c).1) c ?_;rw[aeY,aeY]
 congr 1
 .calc (nfP v D).1*(nfP w D).2*D=((nfP v D).1*D)*(nfP w D).2:=by simp only[ab7,abn,abp]
   _=v*((nfP v D).2*(nfP w D).2):=by rw[d,abp]
 .calc (nfP w D).1*(nfP v D).2*D=((nfP w D).1*D)*(nfP v D).2:=by simp only[ab7,abn,abp]
   _=w*((nfP v D).2*(nfP w D).2):=by rw[e];simp only[ab7,abn,abp]
theorem wz{k:Int}(c:0<D)(hb:0<b)(d:0<k):nfP ((nfP v D).1*a) ((nfP v D).2*b)=nfP (v*(a*k)) (D*(b*k)):=by
 have e:=cc (t:=v) c;refine mW (abm (gC c).1 hb) (abm c (abm hb d)) ?_
 calc (nfP v D).1*a*(D*(b*k))=((nfP v D).1*D)*(a*b*k):=by simp only[ab7,abn,abp]
  _=v*(a*k)*((nfP v D).2*b):=by rw[e];simp only[ab7,abn,abp]
def BJ(c:0<D):nfP 0 D=(0,1):=by
 unfold nfP;rw[if_neg (by omega),show((0:Int).natAbs)=0 from rfl,Nat.gcd_zero_left,Int.zero_ediv,show((D.natAbs:Nat):Int)=D by omega,Int.ediv_self (by omega)]
theorem zh(c:0<D)(f:v.natAbs<10^76)(g:D.natAbs<10^76):FrOk (nfP v D).1 (nfP v D).2:=by
 let⟨d,i,e⟩:=gC (t:=v) c;exact⟨aao e f,by omega,d⟩
def nw(v D:Int):nf v D=frT (nfP v D).1 (nfP v D).2:=rfl
section
variable {d:Type} [g:DecidableEq d]
noncomputable def kvG(enc:d->dL)(f:Int->dL)(L:List (d×Int)):List (dL×dL):=L.map λp=>(enc p.1,f p.2)
theorem wX{enc:d->dL}{f:Int->dL}(e:∀a b,aah (enc a) (enc b)=decide (a=b))(a:d):∀L:List (d×Int),(dY (enc a) (kvG enc f L)).getD (f 0)=f (getA a L)
 |[]=>rfl
 |p::r=>by
  show(if aah (enc p.1) (enc a)=true then some (f p.2)else dY (enc a) (kvG enc f r)).getD (f 0)=f (if p.1=a then p.2 else getA a r);rw[e]
  by_cases c:p.1=a
  .rw[if_pos c,if_pos (decide_eq_true c)];rfl
  .rw[if_neg c,if_neg (by rw[decide_eq_false c];decide)];exact wX e a r
theorem DT{enc:d->dL}{f:Int->dL}(e:∀a b,aah (enc a) (enc b)=decide (a=b))(a:d)(x:Int):∀L:List (d×Int),putP (enc a) (f (getA a L+x)) (kvG enc f L)=kvG enc f (addA a x L)
 |[]=>by show [(enc a,f (0+x))]=_;rw[aen];rfl
 |p::r=>by
  show(if aah (enc p.1) (enc a)=true then(enc p.1,f ((if p.1=a then p.2 else getA a r)+x))::kvG enc f r else(enc p.1,f p.2)::putP (enc a) (f ((if p.1=a then p.2 else getA a r)+x)) (kvG enc f r))=kvG enc f (if p.1=a then(p.1,p.2+x)::r else p::addA a x r);rw[e]
  by_cases c:p.1=a
  .rw[if_pos c,if_pos c,if_pos (decide_eq_true c)];rfl
  .rw[if_neg c,if_neg c,if_neg (by rw[decide_eq_false c];decide),DT e a x r];rfl
theorem u9{enc:d->dL}{f:Int->dL}(c:∀a b,aah (enc a) (enc b)=decide (a=b)):∀{L:List (d×Int)}{i:Nat}{p:d×Int},(L.map (·.1)).Nodup->L[i]?=some p->dY (enc p.1) (kvG enc f L)=some (f p.2)
 |[],i,p,_,e=>by cases e
 | q::r,i,p,nd,e=>by
  rw[aar,aaR]at nd;show(if aah (enc q.1) (enc p.1)=true then some (f q.2)else dY (enc p.1) (kvG enc f r))=some (f p.2);rw[c]
  cases i with
  |zero=>
   have:q=p:=aal e;rw[this,if_pos (decide_eq_true rfl)]
  |succ i=>
   have j:r[i]?=some p:=e;have:¬q.1=p.1:=λz=>nd.1 (z▸aae.mpr ⟨p,oR j,rfl⟩);rw[if_neg (by rw[decide_eq_false this];decide)];exact u9 c nd.2 j
end
noncomputable def frV(D:Int)(v:Int):dL:=nf v D
noncomputable def shD(D:Int)(W:List (Pt×Int)):List (dL×dL):=kvG ptD (frV D) W
structure OfS(h:Hall)(S:Nat):Prop where
 s1:1≤S
 s2:S≤9700
 hb:h.b ∣ S
 hs:∀s∈h.ss,s.b ∣ S
 le:(h.a:Int)*((S/h.b:Nat):Int)+dnS h S h.ss.length≤(S:Int)
def OfS.lf(ho:h.Ok)(O:OfS h S):((S:Int)-(h.a:Int)*((S/h.b:Nat):Int)-dnS h S h.ss.length)*((h.b*bP h.ss:Nat):Int)=tT h h.ss.length*(S:Int):=by
 have c:(h.a*((S/h.b:Nat):Int))*h.b=h.a*S:=by
  rw[abp,<-aap,aea O.hb]
 have:=iP ho c O.hs h.ss.length (Ad _);rwa[Ld]at this
theorem OfS.bp(ho:h.Ok)(O:OfS h S):0<((h.b*bP h.ss:Nat):Int):=by
 have b1:=ho.b1;have:=adF (show 0<h.b by assumption) ((Di ho.ok).1);omega
theorem OfS.rest(ho:h.Ok)(O:OfS h S):0≤(restF h h.ss.length).1:=by
 have c:=O.lf ho;have e:=gv ho h.ss.length (Ad _);rw[Ld]at e;have p:=O.bp ho;have s1:=O.s1;have le:=O.le;have f:=(db ho h.ss.length (Ad _)).1;have d:=by
  have q:0≤tT h h.ss.length*S:=by rw[<-c];exact adb (by omega) (by omega)
  exact ae0 q (by omega)
 have q:0≤(restF h h.ss.length).1*((h.b*bP h.ss:Nat)):=by rw[e];exact adb d (by omega)
 exact ae0 q p
theorem wY(ho:h.Ok):∀k,k≤h.ss.length->aeZ (restF h k).1.natAbs (restF h k).2.natAbs
 |0,_=>by
  have b1:=ho.b1;exact oT (by omega)
 |k+1,hk=>by
  have i:=(db ho k (by exact aaN ‹_›)).1;have e:h.ss[k]?=some h.ss[k]:=iO _;have s:=(ho.ok h.ss[k] (abr _)).b1;rw[restF,e];exact oT (abm i (by omega))
theorem OfS.restd(ho:h.Ok)(O:OfS h S):(restF h h.ss.length).2.toNat ∣ S:=by
 have d:=O.lf ho;have f:=gv ho h.ss.length (Ad _);rw[Ld]at f;have p:=O.bp ho;have g:=(db ho h.ss.length (Ad _)).1;have c:=wY ho h.ss.length (Ad _);generalize i:S-_*_-dnS h S h.ss.length=X at d;have e:(restF h h.ss.length).1*S=X*(restF h h.ss.length).2:=by
  refine acR (a:=((h.b*bP h.ss:Nat))) (by omega) ?_
  grind
 have:=tQ c e;rwa[show(restF h h.ss.length).2.toNat=(restF h h.ss.length).2.natAbs by omega]
theorem OfS.bot(ho:h.Ok)(O:OfS h S):botH h ∣ (ordK h.ss.length h.ss.length).length*S:=by
 have b1:=ho.b1;have f:=dG h.ss.length ho.n4;refine u4 λp hp=>?_;rw[jo]at hp;let⟨q,e,rfl⟩:=aae.mp hp;rcases jI e with⟨o,g,rfl⟩|⟨i,c,rfl⟩|rfl
 .have d:=ox (t:=h.a*1) (b:=h.b*((ordK h.ss.length h.ss.length).length)) (abm (by omega) (by omega));rw[show((h.b:Int)*_).toNat=h.b*(ordK h.ss.length h.ss.length).length by rw[<-aap,aaM]]at d;refine ab5 d ?_;rw[abZ];exact Nat.mul_dvd_mul (ahI _) O.hb
 .exact ab5 (O.hs _ (abr c)) (acM _ _)
 .exact ab5 (O.restd ho) (acM _ _)
def ko(ho:h.Ok):1≤botH h:=by have:=(jq ho).pre (shrL h).length;rw[Ld]at this;exact this.1
theorem OfS.small(ho:h.Ok)(O:OfS h S):botH h≤232800:=by
 have p:=dG h.ss.length ho.n4;have c:=(cn h.ss.length ho.n4 h.ss.length ho.n4).1;have:=ad0 (adF p O.s1) (O.bot ho);have m:=aby c O.s2;exact aak ‹_› ‹_›
def OfS.pow(ho:h.Ok)(O:OfS h S)(c:n≤12):botH h^n<10^66:=by
 have e:=Nat.pow_le_pow_left (O.small ho) n;have d:232800^n≤232800^12:=acu (by decide) c;omega
noncomputable def srvS(S q r:Nat):Srv:=MD (cutN S q) r
noncomputable def vO(S p0:Nat)(c rs:List Nat)(mv:Bool):Hall:=⟨(cutN S p0).1,(cutN S p0).2,adK (srvS S) c rs,mv⟩
theorem d9(c:1≤S):(cutN S q).2 ∣ S/\(cutN S q).1*(S/(cutN S q).2)=q:=by
 unfold cutN;have g:q.gcd S ∣ S:=acY _ _;refine⟨Nat.div_dvd_of_dvd g,?_⟩;rw[Nat.div_div_self g (by exact aaY ‹_›)];exact aea (aeI _ _)
theorem uw{S p0:Nat}{c rs:List Nat}{mv:Bool}(d:1≤S)(i:c.length=rs.length):∀k,k≤c.length->dnS (vO S p0 c rs mv) S k=((c.take k).sum:Int)
 |0,_=>rfl
 |k+1,hk=>by
  have j:=uw (p0:=p0) (mv:=mv) d i k (by exact aaN ‹_›);have e:c[k]?=some c[k]:=iO _;have g:rs[k]?=some rs[k]:=iO _;have f:(vO S p0 c rs mv).ss[k]?=some _:=acv.mpr ⟨_,_,e,g,rfl⟩;rw[dnS,f,j,aaQ,e,ad3];show _+((cutN S c[k]).1:Int)*((S/(cutN S c[k]).2:Nat):Int)=_;rw[<-aap,(d9 d).2];rfl
theorem BZ{p0:Nat}{c rs:List Nat}{mv:Bool}(s1:1≤S)(s2:S≤9700)(d:c.length=rs.length)(hs:p0+c.sum≤S):OfS (vO S p0 c rs mv) S:=by
 have e:(vO S p0 c rs mv).ss.length=c.length:=by show(adK _ c rs).length=_;grind
 refine⟨s1,s2,(d9 s1).1,λs hs=>?_,?_⟩
 .obtain⟨i,hi⟩:=acZ hs;let⟨q,r,_,_,rfl⟩:=acv.mp hi;exact(d9 s1).1
 .rw[e,uw s1 d _ (Ad _),Ld];show((cutN S p0).1:Int)*((S/(cutN S p0).2:Nat))+_≤_;rw[<-aap,(d9 s1).2];omega
def KO(c:1≤S):nf (q:Int) (S:Int)=prD (cutN S q):=rfl
theorem Mr{p:Nat}(e:1≤S):((cutN S p).1*(cutN S q).2<(cutN S q).1*(cutN S p).2)↔p<q:=by
 have d:=d9 (q:=p) e;have c:=d9 (q:=q) e;have i:0<(cutN S p).2:=agE d.1 (by omega);have g:0<(cutN S q).2:=agE c.1 (by omega);have f:=by
  have z:=congrArg (· * (cutN S p).2) d.2;rwa[ab4,aea d.1]at z
 have j:=by
  have z:=congrArg (· * (cutN S q).2) c.2;rwa[ab4,aea c.1]at z
 have key:∀a b:Nat,a<b↔a*S<b*S:=λa b=>(agU (by omega)).symm;rw[key];rw[show(cutN S p).1*(cutN S q).2*S=p*_ by rw[ahu,f,ab4],show(cutN S q).1*(cutN S p).2*S=q*_ by rw[ahu,j,ab4,abZ (cutN S q).2]];exact agU (adF i g)
theorem l4:∀{l:List Nat}{n q:Nat},n=l.length->(∀x∈l,q≤x)->(aai n q).sum≤l.sum
 |[],n,q,h,_=>by subst h;exact Ad _
 |x::l,n,q,h,hm=>by
  have i:=l4 rfl λy c=>hm y (Ge _ c);have:=hm x Io
  grind
noncomputable def vh:SpM:=λas K=>∃(fd:List dL) (c n:Nat),as=[.own fd,.imm (.int (n:Int))]/\TapeD c fd/\c<900000000/\n≤4/\∀(d:List Nat) (S:Nat) (f:List dL),d.length=n+1->(∀p∈d,1≤p/\p≤1600)->1≤S->S≤9700->d.sum≤S->TapeD (c+10) f->K (.new ((d.map (cutN S)).map prD)) [f]
end K
namespace L2
open PySem PySem.Spec PyProof.Rows
section
variable {X:Cx}
def bz{ds:List dL}{g:WG}{w:WS}{D:d7}{m1:MSt}(P:Nat->MSt->Prop)(p0:P 0 m1)
  (step:∀(i:Nat) (d:dL) (m:MSt),ds[i]?=some d->m.np=m1.np->P i m->∀b:d7,(∀a,P (i+1) a->b.nx a)->(∀r a,D.rt r (a.setN m1.np)->b.rt r a)->g d m λm2=>w b m2)
  (fin:∀m,m.np=m1.np->P ds.length m->D.nx m):lw ⟨ds,none⟩ g w D m1:=d6 P p0 (λi d m e n p=>step i d m e n p _ (λ_ z=>z) λ_ _ z=>z) fin
theorem ak{e:Expr}{w:WE}{pos p:Pos}{x:Str}(i:Nat)(c:X.N.Nodup)(a:EE X e w)(hi:X.N[i]?=some x:=by rfl)(b:Loc X.env.scope x:=by exact agN rfl)(hs:abQ e (some (.Name x p)) pos.line X.env=pure false:=by rfl)(h:X.fn x=true\/X.env.scope.names.lookup x=some .local:=by first|exact .inl rfl|exact .inr rfl|assumption):ES X (.Assign [.Name x p] e pos) (wSet i w):=cP c hi b a hs h
theorem al{pos:Pos}{x:Str}(i:Nat)(b:X.N.Nodup)(hi:X.N[i]?=some x:=by rfl)(h:Loc X.env.scope x:=by exact agN rfl)(a:X.fn x=true\/X.env.scope.names.lookup x=some .local:=by first|exact .inl rfl|exact .inr rfl|assumption):EG X (.Name x pos) (gM i):=n6 b hi h a
end
end L2
namespace K
open PySem L2 M7
variable{h:Hall}{r:Rule}{n:Nat}{q:Mv×Int×Nat}
noncomputable def qU:SpM:=i6
noncomputable def yh:SpM:=λas K=>∃(fd:List dL) (c:Nat) (h:Hall),as=[.own fd,.imm h.d]/\h.Ok/\TapeD c fd/\c<800000000/\∀(r:Rule) (f:List dL),r.Ok h->TapeD (c+2410) f->K (.imm r.d) [f]
noncomputable def vj:SpM:=λas K=>∃(h:Hall) (r:Rule) (l:List Nat) (t:Nat) (o:List Nat),as=[.imm h.d,.imm r.d,.imm (stD l t),.imm (lnD o)]/\h.Ok/\r.Ok h/\St h r l t/\Ord h.ss.length o/\K (.imm (mvD (cK h r l t (.come o)))) []
noncomputable def behD(h:Hall)(r:Rule)(l:List Nat)(t:Nat)(q:Mv×Int×Nat):dL:=.tuple [ptD ((cK h r l t q.1).1,(cK h r l t q.1).2.1),wdD (cK h r l t q.1).2.2,frT q.2.1 (q.2.2:Int)]
noncomputable def Fx:SpM:=λas K=>∃(h:Hall) (r:Rule) (l:List Nat) (t:Nat),as=[.imm h.d,.imm r.d,.imm (stD l t)]/\h.Ok/\r.Ok h/\St h r l t/\K (.new ((shrM h).map (behD h r l t))) []
noncomputable def cmM(h:Hall):List (Mv×Int×Nat):=(ordK h.ss.length h.ss.length).map λo=>(Mv.come o,(cb h).1,(cb h).2.toNat)
noncomputable def dnM(h:Hall):List (Mv×Int×Nat):=h.ss.zipIdx.map λq=>(Mv.done q.2,(q.1.a:Int),q.1.b)
theorem JF{i:Nat}{s:Srv}(e:h.ss[i]?=some s):(dnM h)[i]?=some (Mv.done i,(s.a:Int),s.b):=by
 unfold dnM
 simp_all
def KQ(ho:h.Ok):nf (h.a:Int) (((h.b*(ordK h.ss.length h.ss.length).length:Nat)):Int)=frT (cb h).1 (((cb h).2.toNat:Nat):Int):=by
 have hp:=(t8 ho (dG h.ss.length ho.n4)).hp;rw[show(((cb h).2.toNat))=(cb h).2 by rfl,nw];unfold cb;simp
structure RL(h:Hall)(i:Nat)(x:Int×Int):Prop where
 e:x.1*(restF h i).2=(restF h i).1*x.2
 f:FrOk x.1 x.2
 g:0<i->x=restF h i
theorem RL.zero(ho:h.Ok):RL h 0 ((h.b:Int)-(h.a:Int),(h.b:Int)):=by
 have b1:=ho.b1;have b2:=ho.b2;have a2:=ho.a2;have c:=cc (t:=1*h.b-h.a*1) (b:=1*h.b) (by omega);have a:(restF h 0).1*_=_*(restF h 0).2:=c;rw[afM,aeS]at a;refine⟨a.symm,⟨?_,?_,?_⟩,λz=>by contradiction⟩
 .omega
 .grind
 .grind
theorem RL.succ(ho:h.Ok){i:Nat}{x:Int×Int}{s:Srv}(X:RL h i x)(es:h.ss[i]?=some s):RL h (i+1) (nfP (x.1*(s.b:Int) + -(s.a:Int)*x.2) (x.2*(s.b:Int))):=by
 have c:=(DL.mp es).1;have so:=ho.ok s (oR es);have sb:=so.b1;have a:=(db ho i (by exact aaN ‹_›)).1;have b:=X.f.hp;have e:nfP (x.1*s.b + -(s.a:Int)*x.2) (x.2*s.b)=restF h (i+1):=by
  rw[restF,es];refine mW (abm b (by omega)) (abm a (by omega)) ?_;have d:=X.e
  grind
 rw[e];exact⟨rfl,ub ho (by assumption),λ_=>rfl⟩
structure DuOk(h:Hall)(r:Rule)(n:Nat):Prop where
 ho:h.Ok
 hr:r.Ok h
 h0:0≤(restF h h.ss.length).1
 le:n≤12
 b:botH h^n<10^66
def DuOk.pw(D:DuOk h r n){k:Nat}(a:k≤n):botH h^k<10^66:=aao (acu (ko D.ho) a) D.b
def DuOk.p0(D:DuOk h r n)(k:Nat):0<((botH h^k:Nat):Int):=by
 have:=Nat.pow_pos (n:=k) (show 0<botH h from ko D.ho);omega
structure GoB(c:Int)(x:List (Pt×Int)×List (Wd×Int)):Prop where
 n1:∀p∈x.1,0≤p.2
 n2:∀p∈x.2,0≤p.2
 s1:sumA x.1≤c
 s2:sumA x.2≤c
def GoB.next{c d:Int}{p:Pt}{w:Int}{q:Mv×Int}{x:List (Pt×Int)×List (Wd×Int)}(X:GoB c x)(a:0≤w*q.2)(b:w*q.2≤d):GoB (c+d) (goW1 h r p w q x):=by
 have s1:=X.s1;have s2:=X.s2;unfold goW1;exact⟨jZ a X.n1,jZ a X.n2,by rw[iz];omega,by rw[iz];omega⟩
def DuOk.amt(D:DuOk h r n){k:Nat}{p:Pt×Int}{q:Mv×Int}(hp:p∈stW h r k)(c:q∈msL h):0≤p.2*q.2/\p.2*q.2≤((botH h^(k+1):Nat):Int):=by
 have b:=qJ D.ho D.h0 r k;have w:=(gJ b).2 p hp;rw[me D.ho D.h0 r k]at w;have f:=b p hp;have d:=Ko D.ho D.h0;have a:=(gJ (L:=msL h) d).2 q c;have v:=d q c;have e:sumA (msL h)=(botH h:Int):=Av D.ho D.h0;rw[e]at a;refine⟨adb f v,?_⟩;rw[adk,aap];exact afA w a v (ad9 _)
def PF{v c:Int}{D k:Nat}(h0:0≤v)(f:v≤c)(d:c≤(k:Int)*(D:Int))(a:k≤10000000)(b:D<10^66):v.natAbs<10^76:=by
 have m:(k:Int)*(D:Int)≤((10000000*10^66:Nat):Int):=by
  rw[<-aap];exact Int.ofNat_le.mpr (aby a (aaN b))
 have e:10000000*10^66<10^76:=by decide
 omega
def yJ(ho:h.Ok){D:Int}{W:List (Pt×Int)}(a:∀p∈W,St h r p.1.1 p.1.2):kyA (shD D W)=true:=by
 unfold kyA shD kvG;rw[adJ,ab2];exact λp hp=>sd ho (a p hp)
def Oj{j:Nat}(e:(shrM h)[j]?=some q):(msL h)[j]?=some (q.1,q.2.1*((botH h/q.2.2:Nat):Int)):=by
 unfold msL;rw[GE,e];rfl
def DuOk.part(D:DuOk h r n){k:Nat}(w:Int)(c:q∈shrM h):FrOk q.2.1 (q.2.2:Int)/\nfP ((nfP w ((botH h^k:Nat):Int)).1*q.2.1) ((nfP w ((botH h^k:Nat):Int)).2*(q.2.2:Int))=nfP (w*(q.2.1*((botH h/q.2.2:Nat):Int))) ((botH h^(k+1):Nat):Int):=by
 have B:=jq D.ho;have a:(q.1.d,q.2)∈shrL h:=by rw[jo];exact aae.mpr ⟨q,c,rfl⟩
 have d:=B.d _ a;have b:q.2.2 ∣ botH h:=iq a;have bp:=ko D.ho;have b1:1≤q.2.2:=d.1;have le:=ad0 bp b;have f:botH h<10^76:=by have:=B.pre (shrL h).length;rw[Ld]at this;exact this.2
 have e:0<botH h/q.2.2:=agQ le b1;refine⟨⟨d.2.2,by rw[aaH];omega,by omega⟩,?_⟩;rw[wz (k:=((botH h/q.2.2:Nat):Int)) (D.p0 k) (by omega) (by omega)]
 congr 1
 rw[<-aap,ag8 b,adk,aap]
theorem k8{i:Int}(h:i.natAbs<10^100):Fine 101 0 (.int i):=by
 have s:=by
  have e:=PySem.int_text_length_le10 (by decide) h;show(abY (toString i)).length≤101;rw[PySem.ofString_length];exact e
 refine⟨?_,rfl,s,Ad _⟩;have:i.natAbs.log2<400\/i.natAbs=0:=by
  by_cases z:i.natAbs=0
  .exact .inr z
  .exact .inl ((agP z).mpr (aaA h (by decide)))
 show decide _=true;rcases this with h|h
 .grind
 .rw[h];decide
theorem FZ{t b:Int}(a:0<b)(f:t.natAbs<10^76)(hb:b.natAbs<10^76):Fine 300 1 (nf t b):=by
 have F:=zh a f hb;refine(bj (n:=101) (k:=0) (c:=2) (ds:=[.int (nfP t b).1,.int (nfP t b).2]) (λd hd=>?_) (Ad 2)).mono (by decide) (by decide);rcases aam.mp hd with e|e
 .rw[e];exact k8 (aaA F.ha (by decide))
 .rw[aab.mp e];exact k8 (aaA F.hb (by decide))
end K
namespace L2
open PySem PySem.W PyProof.Rows
structure TotF(n:Nat)(f:Nat->Nat->Bool):Prop where
 tr:∀a b c,a<n->b<n->c<n->f a b=true->f b c=true->f a c=true
 tot:∀a b,a<n->b<n->a≠b->f a b=true\/f b a=true
end L2
namespace L2
open PySem PySem.Spec PySem.W PyProof.Rows
noncomputable def LtAt(A:aa6)(s:mT)(x y:lD)(b:Bool):Prop:=
 ∀(prog:aaD) (w:World) (E:lD->mT->Prop) (Q:lD->mT->Prop),Q (.bool b) s->wpAny (model prog w) A (richCompare .Lt x y) Q E s
noncomputable def xH(A:aa6)(s:mT)(fin r:Bool):List (lD×lD)->Prop
 |[]=>r=fin
 |p::ps=>∃e,agd A s p.1 p.2 e/\((e=true->xH A s fin r ps)/\(e=false->LtAt A s p.1 p.2 r))
theorem lp(l b:Addr)(xs ys:Array lD)(n m:Nat)(k g:Option Addr)(s1 s2:Array (Option lD))(r:Bool) :
  Meets (ac8.«tuple.__lt__» ⟨[.ref l,.ref b],[]⟩)
   (λA R s=>s.heap.get? l=some {cls:=.type "tuple",dict:=k,data:=.seq xs n,slots:=s1}/\s.heap.get? b=some {cls:=.type "tuple",dict:=g,data:=.seq ys m,slots:=s2}/\xH A.in1 s (decide (xs.size<ys.size)) r (xs.toList.zip ys.toList)/\R (.ok (.ret (.bool r))) s):=
 .of_wp λprog w A R s h=>by
  let⟨j,q,hp,hr⟩:=h;have p:=AutoSeq1.sub_tuple_tuple
  wp_walk using afb j,afb q,aeG _ (λrest z a=>z.1=none/\a=s/\xH A.in1 s (decide (xs.size<ys.size)) r rest) _
  case turn=>
   intro⟨u,v⟩ rest z a ⟨d,rfl,e,o,i,f⟩;refine aD (o prog w _ _ ?_)
   cases e with
   |true=>exact Dl ⟨rfl,rfl,i rfl⟩
   |false=>
    refine aD (abH (aD (f rfl prog w _ _ ?_)))
    wp_walk
    exact⟨_,rfl,hr⟩
  case fin=>
   intro⟨z,u⟩ a ⟨d,rfl,e⟩;have c:z=none:=d;subst c
   wp_walk
   refine⟨_,rfl,?_⟩;rw[e]at hr;exact hr
  case h=>exact⟨rfl,rfl,hp⟩
mutual
noncomputable def ltD:dL->dL->Bool
 | .int a,.int b=>decide (a<b)
 | .tuple xs,.tuple ys=>ltDs xs ys
 |_,_=>false
noncomputable def ltDs:List dL->List dL->Bool
 |x::xs,y::ys=>if aah x y=true then ltDs xs ys else ltD x y
 |[],_::_=>true
 |_,_=>false
end
mutual
noncomputable def smD:dL->dL->Bool
 | .int _,.int _=>true
 | .tuple xs,.tuple ys=>smDs xs ys
 |_,_=>false
noncomputable def smDs:List dL->List dL->Bool
 |[],[]=>true
 |x::xs,y::ys=>smD x y&&smDs xs ys
 |_,_=>false
end
mutual
theorem xn:∀{x y:dL},smD x y=true->x.canLay0=true/\y.canLay0=true
 | .int _,.int _,_=>⟨rfl,rfl⟩
 | .tuple xs,.tuple ys,h=>by
  simp only[smD]at h;have:=wm h;exact⟨this.1,this.2⟩
theorem wm:∀{xs ys:List dL},smDs xs ys=true->aa3 xs=true/\aa3 ys=true
 |[],[],_=>⟨rfl,rfl⟩
 |x::xs,y::ys,h=>by
  simp only[smDs,aaT]at h;have a:=xn h.1;have b:=wm h.2;exact⟨by simp only[aa3,a.1,b.1,Bool.and_self],by simp only[aa3,a.2,b.2,Bool.and_self]⟩
end
noncomputable def LtUp(k:Nat):Prop:=∀(x y:dL) (A:aa6) (s:mT) (u v:lD) (as bs:List Addr),x.depth≤k->Reads s.heap u x as->Reads s.heap v y bs->smD x y=true->A.units+x.depth<cLine->LtAt A s u v (ltD x y)
theorem j9{k:Nat}(I:LtUp k)(A:aa6)(s:mT):∀(xs ys:List dL) (u vs:List lD) (as bs:List Addr),aaq xs≤k->adW s.heap u xs as->adW s.heap vs ys bs->smDs xs ys=true->A.units+aaq xs<cLine->u.length=vs.length/\xH A s false (ltDs xs ys) (u.zip vs)
 | [],ys,u,vs,as,bs,hk,r1,r2,h,hu=>by
  cases ys with
  |cons y ys=>exact absurd h (by simp only[smDs];decide)
  |nil=>
   cases r1;cases r2;exact⟨rfl,rfl⟩
 | x::xs,ys,u,vs,as,bs,hk,r1,r2,h,hu=>by
  cases ys with
  |nil=>exact absurd h (by simp only[smDs];decide)
  | cons y ys=>
   simp only[smDs,aaT]at h
   cases r1 with
   | cons a1 a2=>
    cases r2 with
    |cons b1 b2=>
     have c:max x.depth _≤k:=hk;have dp:A.units+max x.depth _<cLine:=hu;have l:=xn h.1;let⟨b,a⟩:=j9 I A s xs ys _ _ _ _ (by omega) a2 b2 h.2 (by omega);refine⟨by rw[aaG,aaG,b],aah x y,ahT x y A s _ _ _ _ a1 b1 l.1 l.2 (by have:=Nat.min_le_left x.depth y.depth;omega),λe=>?_,λe=>?_⟩
     .rw[ltDs,if_pos e];exact a
     .rw[ltDs,if_neg (by rw[e];decide)];exact I x y A s _ _ _ _ (by omega) a1 b1 h.1 (by omega)
theorem uW:∀k,LtUp k
 | 0,x,y,A,s,u,v,as,bs,hk,r1,r2,h,hu=>by
  cases x with
  | int a=>
   cases y with
   |int b=>
    cases r1;cases r2;exact λprog w E Q h=>wpAny_lt_int h
   |_=>exact absurd h (by simp only[smD];decide)
  |tuple c=>exact absurd hk (by show ¬aaq c+1≤0;contradiction)
  |_=>exact absurd h (by simp only[smD];decide)
 | k+1,x,y,A,s,u,v,as,bs,hk,r1,r2,h,hu=>by
  cases x with
  | int a=>
   cases y with
   |int b=>
    cases r1;cases r2;exact λprog w E Q h=>wpAny_lt_int h
   |_=>exact absurd h (by simp only[smD];decide)
  | tuple c=>
   cases y with
   | tuple j=>
    simp only[smD]at h
    cases r1 with
    | tuple t D q I=>
     cases r2 with
     |tuple r G B M=>
      rename_i l o vs n m L d H;let⟨J,S,C,N⟩:=o;let⟨i,g,f,e⟩:=L;dsimp only at D q G B;subst D q G B;have P:aaq c+1≤k+1:=hk;have dp:A.units+(aaq c+1)<cLine:=hu;let⟨O,K⟩:=j9 (uW k) A.in1 s c j vs.toList d.toList _ _ (by omega) I M h (show A.units+1+aaq c<cLine by omega);rw[abO,abO]at O;intro prog w E Q R;refine richCompare_meets_room (op:=.Lt) ⟨_,t,rfl⟩ ⟨_,r,rfl⟩ F.slot_tuple_lt F.entry_tuple_lt (F.args_tuple_lt_2 _ _) (lp l m vs d n H S g N e (ltDs c j)) ⟨t,r,?_,⟨(λz=>nomatch z),R⟩⟩ (by omega);rw[decide_eq_false (p:=_) (by omega)];exact K
   |_=>exact absurd h (by simp only[smD];decide)
  |_=>exact absurd h (by simp only[smD];decide)
end L2
namespace L2
open PySem PySem.Spec PyProof.Rows
variable{n:Nat}{T v:Addr}{b:Bool}{o:Obj}{Q:Bool->mT->Prop}{P:Addr->aaX->Nat->lD->Prop}
section
variable {prog:aaD}{w:World}{A:aa6}{E:lD->mT->Prop}{s:mT}{it d:Addr}{es:Array ab9}{i ep:Nat}{ok ov:lD}
noncomputable def lq(h:aaX)(it d:Addr)(i n ep:Nat)(k v:lD)(T:Addr)(b:Bool):Prop:=h.get? it=some {cls:=.type "dict_itemiterator",data:=.fields #[adj T,.bool b,.ref d,.int i 0,.int n 0,.int ep 0,k,v]}
def JY{a:Addr}{Q:Option Obj->mT->Prop}(h:Q (s.heap.get? a) s):wpAny (model prog w) A (loadIfAlive a) Q E s:=λ_ _ _=>h
theorem JN{j:Nat}(h:lq s.heap it d j n ep ok ov T b)(g:s.heap.get? T=some o)
  (a:∀h',lq h' it d j n ep ok ov T true->h'.objs.size=s.heap.objs.size->(∀c o,c≠it->s.heap.get? c=some o->h'.get? c=some o)->Q false {s with heap:=h' }):wpAny (model prog w) A (abW (.ref it)) Q E s:=by
 refine aD (aba h rfl (x:=adj T) rfl ?_);refine aD (JY ?_);rw[show((T:Int)).toNat=T by rfl,g];refine aD (aba h rfl (x:=.bool b) rfl ?_)
 cases b with
 |true=>exact Dl (a s.heap h rfl λc o _ q=>q)
 |false=>
  refine aD (aat h (by simp) λe f s1=>?_);exact Dl (a e f s1.1 λc o k q=>s1.extBut c o k q)
def Db{j:Nat}{k v:lD}{Q:lD->mT->Prop}(h:lq s.heap it d j n ep ok ov T b)(e:s.heap.get? T=some o)
  (g:∀h',lq h' it d j n ep ok ov T true->h'.get? s.heap.objs.size=some {cls:=.type "tuple",data:=.seq #[k,v]}->h'.objs.size=s.heap.objs.size+1 ->
   (∀c o,c≠it->s.heap.get? c=some o->h'.get? c=some o)->Q (.ref s.heap.objs.size) {s with heap:=h' }):wpAny (model prog w) A (ab6 (.ref it) 6 k v) Q E s:=by
 have lt:=OR h;have push:∀c o,s.heap.get? c=some o->(s.heap.push {cls:=.type "tuple",data:=.seq #[k,v]}).get? c=some o:=λc o q=>AD _ q;refine aD (m:=abW _) (JN (push _ _ h) (push _ _ e) λh' a1 a2 a=>?_);refine Dl (g h' a1 (a _ _ (aaY lt) (aaa _ rfl)) (a2.trans (abx ..)) λc o f q=>a c o f (push c o q))
def BO{Q:Option lD->mT->Prop}(h:lq s.heap it d i es.size ep ok ov T b)(l:s.heap.get? T=some o)(G:T≠it)(I:EntAt s.heap d es ep)(hi:i<es.size)
  (H:∀h',lq h' it d (i+1) es.size ep ok ov T true->h'.get? s.heap.objs.size=some {cls:=.type "tuple",data:=.seq #[es[i].key,es[i].val]}->h'.objs.size=s.heap.objs.size+1 ->
   (∀c o,c≠it->s.heap.get? c=some o->h'.get? c=some o)->Q (some (.ref s.heap.objs.size)) {s with heap:=h' }):wpAny (model prog w) A (ach (.ref it)) Q E s:=by
 let⟨L,f,B,k⟩:=I.ex;have a:s.TypeIs (.ref it) "dict_itemiterator":=(⟨_,h,rfl⟩);have own:aa8 "dict_itemiterator" = true:=by decide
 unfold ach;refine aD (ab3 (aaF (name:=abY "__next__") a aa1 (aaJ aa1 a acm ?_ (ace _))))
 wp_walk using qc a,adE h rfl,abP f k,acd f k,abd a
 have J:(if (i:Int)<0 then none else es[((i:Nat):Int).toNat]?)=some es[i]:=by
  rw[if_neg (by omega),aaM,abu hi]
 rw[J];rcases s with⟨hp,g,p,t,os⟩;refine aD ?_;refine aD (qc a (Dl ?_));refine aD (m:=afz _ _) (abd a ?_);show wpAny _ _ (acQ (.ref it) 3 (adj ((i:Int)+1)) >>= _) _ _ _;refine aD (aat h (by simp) λe C s1=>?_);replace s1:abk it hp e:=s1;have j:lq e it d (i+1) es.size ep ok ov T b:=by
  have q:((i+1:Nat):Int)=(i:Int)+1:=rfl;unfold lq;rw[q];simpa[adj]using C
 have x:aeQ ⟨e,g,p,t,os⟩ (.ref it) "dict_itemiterator":=(⟨_,j,rfl⟩);refine aD (abI (aD (abd x (aD (abd x ?_)))));show wpAny _ _ (ab6 (.ref it) 6 es[i].key es[i].val) _ _ ⟨e,g,p,t,os⟩;have D:e.objs.size=hp.objs.size:=s1.1;refine Db (s:=⟨e,g,p,t,os⟩) j (s1.extBut T o G l) λy F u z K=>?_;rw[D]at u z⊢;exact Dl ⟨_,rfl,Dl (H y F u z λc o r q=>K c o r (s1.extBut c o r q))⟩
def Dw{Q:Option lD->mT->Prop}(p:A.handled=none)(h:lq s.heap it d i es.size ep ok ov T b)(x:EntAt s.heap d es ep)(hi:es.size≤i)
  (k:∀h',(∀c o,c≠it->s.heap.get? c=some o->h'.get? c=some o)->Q none {s with heap:=h' }):wpAny (model prog w) A (ach (.ref it)) Q E s:=by
 let⟨D,f,y,g⟩:=x.ex;have a:s.TypeIs (.ref it) "dict_itemiterator":=(⟨_,h,rfl⟩);have own:aa8 "dict_itemiterator" = true:=by decide
 unfold ach;refine aD (ab3 (aaF (name:=abY "__next__") a aa1 (aaJ aa1 a acm ?_ (ace _))))
 wp_walk using qc a,adE h rfl,abP f g,acd f g,abd a
 have z:(if (i:Int)<0 then none else es[((i:Nat):Int).toNat]?)=none:=by
  rw[if_neg (by omega),aaM,aeq hi]
 rw[z];refine aD (aD (qc a (Dl ?_)));refine aD (m:=acQ (.ref it) 2 .none) (aat h (by simp) λC F s1=>?_);refine jE p λj e B ⟨u,t,r⟩=>?_;exact aD (ack (T:= "StopIteration") (b:=true) ⟨u,t,r⟩ ael (Dl (k j λc o l q=>B c o (s1.extBut c o l q))))
structure Nx(prog:aaD)(w:World)(A:aa6)(S it:Addr)(n:Nat)(St:Nat->aaX->Prop)(P:aaX->Nat->lD->Prop):Prop where
 item:∀(i:Nat) (s:mT) (Q:Option lD->mT->Prop) (E:lD->mT->Prop),i<n->St i s.heap->(∃o,s.heap.get? S=some o)->(∀h' v,St (i+1) h'->P h' i v->(∀c o,c≠it->s.heap.get? c=some o->h'.get? c=some o)->Q (some v) {s with heap:=h' })->wpAny (model prog w) A (ach (.ref it)) Q E s
 done:∀(s:mT) (Q:Option lD->mT->Prop) (E:lD->mT->Prop),St n s.heap->(∀h',(∀c o,c≠it->s.heap.get? c=some o->h'.get? c=some o)->Q none {s with heap:=h' })->wpAny (model prog w) A (ach (.ref it)) Q E s
 keep:∀i h h',St i h->h'.objs.size=h.objs.size->(∀c o,c≠S->h.get? c=some o->h'.get? c=some o)->St i h'
 more:∀h h' i v,P h i v->(∀c o,c≠S->c≠it->h.get? c=some o->h'.get? c=some o)->P h' i v
noncomputable def lz(h:aaX)(S:Addr)(acc:Array lD)(c:Nat):Prop:=h.get? S=some {cls:=.type "list",data:=.seq acc c}
theorem uO{S it:Addr}{n:Nat}{St:Nat->aaX->Prop}{P:aaX->Nat->lD->Prop}{R:Result->mT->Prop}{r:lD}(N:Nx prog w A.in1 S it n St P)(ne:S≠it)(J:n≤aad):∀(k i:Nat) (s:mT) (acc:Array lD) (c:Nat),n-i=k->i≤n->St i s.heap->lz s.heap S acc c->acc.size=i->(∀j v,acc[j]?=some v->P s.heap j v) ->
  (∀h' a I,(∀b o,b≠it->b≠S->s.heap.get? b=some o->h'.get? b=some o)->lz h' S a I->a.size=n->(∀j v,a[j]?=some v->P h' j v)->R (.ok (.ret r)) {s with heap:=h' })->aeN (model prog w) A (.builtin "list.extend.loop" ⟨[.ref S,.ref it,r],[]⟩) R s
 |0,i,s,acc,c,hk,hi,st,hl,ha,hp,fin=>by
  have e:i=n:=by omega
  subst e;refine afc ag9 ((ae1 adR _).symm▸?_);refine aD (m:=ach (.ref it)) (N.done s _ _ st λh' kp=>Dl (fin h' acc c (λb o x _ q=>kp b o x q) (kp S _ ne hl) ha λj v e=>N.more _ _ _ _ (hp j v e) λc o _ f q=>kp c o f q))
 | k+1,i,s,acc,c,hk,hi,st,hl,ha,hp,fin=>by
  refine afc ag9 ((ae1 adR _).symm▸?_);refine aD (m:=ach (.ref it)) (N.item i s _ _ (by omega) st ⟨_,hl⟩ λh' v t C kp=>?_);have h:lz h' S acc c:=kp S _ ne hl;refine aD (m:=updateSeq S (·.push v)) (agz (s:={s with heap:=h' }) h rfl (Dl ⟨ahi adR _,?_⟩) (by rw[ha];exact aak ‹_› ‹_›) (by show(acc.push v).size≤aad+1;rw[ah1,ha];omega));have l:∀b o,b≠S->h'.get? b=some o->(h'.update S (acN (·.push v))).get? b=some o:=λb o x q=>(acJ _ _ (abf x)).trans q;have p:∀j u,(acc.push v)[j]?=some u->P (h'.update S (acN (·.push v))) j u:=λj u e=>by
   rw[Array.getElem?_push]at e
   split at e
   .rename_i z;rw[ha]at z;subst z;rw[<-aal e];exact N.more _ _ _ _ C λc o f _ q=>l c o f q
   .exact N.more _ _ _ _ (hp j u e) λc o f G q=>l c o f (kp c o G q)
  refine uO N ne J k (i+1) _ (acc.push v) _ (by omega) (by omega) (N.keep _ _ _ t (aga ..) l) (acS _ h rfl) (by rw[ah1,ha]) p λB g K y F H D=>fin B g K (λb o n1 n2 q=>y b o n1 n2 (l b o n2 (kp b o n1 q))) F H D
end
section
variable {prog:aaD}{w:World}{A:aa6}{E:lD->mT->Prop}{s:mT}{f d S:Addr}{es:Array ab9}{i g:Nat}{ok r:lD}
noncomputable def StI(S f d:Addr)(es:Array ab9)(g:Nat)(i:Nat)(h:aaX):Prop:=EntAt h d es g/\h.objs.size=f+1+i/\((∃ok r,acE h f d i es.size g ok r)\/∃k v T b o,lq h f d i es.size g k v T b/\h.get? T=some o/\T≠f/\T≠S)
noncomputable def PrI(S f:Addr)(es:Array ab9)(h:aaX)(i:Nat)(v:lD):Prop:=S<f/\v = .ref (f+1+i)/\∃a:i<es.size,h.get? (f+1+i)=some {cls:=.type "tuple",data:=.seq #[es[i].key,es[i].val]}
def yk(f:Addr)(i:Nat):f+1+i≠f:=aaY (aan (ab1 f) (acl _ i))
def zX{S f:Addr}(h:S<f)(i:Nat):f+1+i≠S:=aaY (aaA h (aan (ab1 f) (acl _ i)))
theorem CJ(C:A.handled=none)(n1:S<f)(n2:S≠d)(D:f≠d):Nx prog w A S f es.size (StI S f d es g) (PrI S f es) where
 item:=by
  intro i s Q E j ⟨c,z,st⟩ ⟨H,G⟩ x;rcases st with⟨ok,r,st⟩|⟨k,v,T,b,o,st,y,u,B⟩
  .refine qK st c j λp a1 a2 t m=>?_;rw[z]at a1 a2 t⊢;exact x p _ ⟨c.keep λo q=>m d o (abf D) q,t,.inr ⟨_,_,_,false,_,a1,a2,(yk f i),(zX n1 i)⟩⟩ ⟨n1,rfl,j,a2⟩ m
  .refine BO st y u c j λp a1 a2 t m=>?_;rw[z]at a2 t⊢;exact x p _ ⟨c.keep λo q=>m d o (abf D) q,t,.inr ⟨_,_,_,true,o,a1,m T o u y,u,B⟩⟩ ⟨n1,rfl,j,a2⟩ m
 done:=by
  intro s Q E ⟨c,z,st⟩ x;rcases st with⟨ok,r,st⟩|⟨k,v,T,b,o,st,_⟩
  .exact ql C st c (Ad _) x
  .exact Dw C st c (Ad _) x
 keep:=by
  intro i h p ⟨c,z,st⟩ F k;refine⟨c.keep λo q=>k d o (abf n2) q,F.trans z,?_⟩;rcases st with⟨ok,r,st⟩|⟨a,v,T,b,o,st,y,u,B⟩
  .exact .inl ⟨ok,r,k f _ (aaY n1) st⟩
  .exact .inr ⟨a,v,T,b,o,k f _ (aaY n1) st,k T o B y,u,B⟩
 more:=by intro h p i v ⟨l,e,j,q⟩ k;exact⟨l,e,j,k _ _ (zX n1 i) (yk f i) q⟩
theorem Ip(l:A.handled=none)(n1:S≠f)(n2:S≠d)(m:f≠d):Nx prog w A S f es.size (λi h=>EntAt h d es g/\sj h f d i es.size g) (λ_ i v=>∃hi:i<es.size,v=es[i].key) where
 item:=by intro i s Q E hi ⟨a,st⟩ _ e;exact AQ st a hi λc a1 j=>e c _ ⟨a.keep λo q=>j d o (abf m) q,a1⟩ ⟨hi,rfl⟩ j
 done:=by intro s Q E ⟨a,st⟩ e;exact Bt l st a (Ad _) e
 keep:=by intro i h c ⟨a,st⟩ _ k;exact⟨a.keep λo q=>k d o (abf n2) q,⟨k f _ (abf n1) st.e⟩⟩
 more:=λh c i v x _=>x
def AC{Q:lD->mT->Prop}(c:s.heap.get? v=some {cls:=.type "dict_items",data:=.fields #[.ref d]})(k:EntAt s.heap d es g)
  (j:∀h',acE h' s.heap.objs.size d 0 es.size g .none .none->h'.objs.size=s.heap.objs.size+1->(∀b o,s.heap.get? b=some o->h'.get? b=some o)->Q (.ref s.heap.objs.size) {s with heap:=h' }):wpAny (model prog w) A (ae4 (.ref v)) Q E s:=by
 let⟨m,h,l,a⟩:=k.ex;have e:s.TypeIs (.ref v) "dict_items":=(⟨_,c,rfl⟩);have own:aa8 "dict_itemiterator" = true:=by decide
 refine aer e acF (aaJ acF e aeX ?_ (aeH _));refine aD (Dl (aD (aD (aba c rfl (x:=.ref d) rfl (Dl (aD (aD (abP h a (aD (acd h a ?_))))))))));simp only[own,if_true];refine aaV (Dl ⟨_,rfl,"dict_itemiterator",_,⟨_,aaa _ rfl,rfl⟩,acL.lookup,?_⟩) (by simp only[sizeOk,adX,aav,aaj,aaG,agy,aag];decide);exact j _ (aaa _ rfl) (abx ..) λb o q=>AD _ q
def xr:ahn (.type "dict_items") "__len__" = pure (some (.builtin "dict_items.__len__")):=by rfl
def BF:ahn (.type "dict") "__len__" = pure (some (.builtin "dict.__len__")):=by rw[typeLookup_type,builtinLookup_eq_fast];kernel_rfl
theorem vZ(a:s.TypeIs (.ref v) "dict_items")(h:Q false s):wpAny (model prog w) A (abE (.ref v)) Q E s:=by
 rw[abE];refine aD (ad4 a xr ?_);have c:splitId "dict_items.__len__" = some ("dict_items","__len__"):=by decide +kernel
 dsimp only;rw[c];dsimp only;refine aD (ack (b:=true) a (by rw[isSubtype_type];kernel_rfl) ?_);rw[if_neg (by decide)];rw[if_pos (by decide +kernel)];exact aD (add a (Dl h))
theorem z9(a:s.TypeIs (.ref v) "dict")(h:Q false s):wpAny (model prog w) A (abE (.ref v)) Q E s:=by
 rw[abE];refine aD (ad4 a BF ?_);have c:splitId "dict.__len__" = some ("dict","__len__"):=by decide +kernel
 dsimp only;rw[c];dsimp only;refine aD (ack (b:=true) a (by rw[isSubtype_type];kernel_rfl) ?_);rw[if_neg (by decide)];rw[if_pos (by decide +kernel)];exact aD (add a (Dl h))
def PJ{c:Nat}{Q:Unit->mT->Prop}(e:lz s.heap S #[] c)(h:∀h' j,lz h' S #[] j->h'.objs.size=s.heap.objs.size->(∀b o,b≠S->s.heap.get? b=some o->h'.get? b=some o)->Q () {s with heap:=h' }):wpAny (model prog w) A (ac8.List.listTouch (.ref S)) Q E s:=by
 refine aD (agz e rfl ?_ (by simp) (by trivial));have l:lz (s.heap.update S (acN (·.push .none))) S (#[].push .none) _:=acS _ e rfl;refine agz l rfl ?_ (by show(1:Nat)≤aad;rw[aag];decide) (by trivial);have k:lz ((s.heap.update S (acN (·.push .none))).update S (acN (·.pop))) S #[] _:=acS _ l rfl;exact h _ _ k ((aga ..).trans (aga ..)) λb o a q=>(acJ _ _ (abf a)).trans ((acJ _ _ (abf a)).trans q)
def Dm{T:String}{c:Nat}{St:Addr->Nat->aaX->Prop}{R:Result->mT->Prop}(t:s.TypeIs (.ref v) T)(k:T = "dict_items" \/ T = "dict")(X:S≠v)(H:lz s.heap S #[] c)(M:n≤aad)
  (h:∀(s:mT) (Q:Bool->mT->Prop) (E:lD->mT->Prop),s.TypeIs (.ref v) T->Q false s->wpAny (model prog w) A.in1 (abE (.ref v)) Q E s)
  (a:∀(Q:lD->mT->Prop) (E:lD->mT->Prop),(∀h' f,f≠S->Nx prog w A.in1 S f n (St f) (P f)->St f 0 h'->(∀b o,s.heap.get? b=some o->h'.get? b=some o)->s.heap.get? f=none->Q (.ref f) {s with heap:=h' })->wpAny (model prog w) A.in1 (ae4 (.ref v)) Q E s)
  (fin:∀f h' (acc:Array lD) c',(∀b o,b≠S->s.heap.get? b=some o->h'.get? b=some o)->lz h' S acc c'->acc.size=n->(∀j u,acc[j]?=some u->P f h' j u)->R (.ok (.ret (.ref S))) {s with heap:=h' }):aeN (model prog w) A (.builtin "list.__iadd__" ⟨[.ref S,.ref v],[]⟩) R s:=by
 refine afc F.entry_list_iadd ((ae1 F.plain_list_iadd _).symm▸?_);show wpAny _ A.in1 (ac8.List.listExtendWith (.ref S) (.ref v) (.ref S)) _ _ _;refine aD ?_;refine add t ?_;have C:afT (.ref S) (.ref v)=false:=by simp[afT,X]
 rw[C,if_neg (by rcases k with rfl|rfl<;>decide)];refine aD (a _ _ λx f W N st p U=>?_);have m:aeQ {s with heap:=x} (.ref v) T:=by
  let⟨o,I,Y⟩:=t;exact⟨o,p _ _ I,Y⟩
 refine aD (abI (h _ _ _ m ?_));dsimp only;rw[if_pos (by rcases k with rfl|rfl<;>decide)];refine aD (abH (aD (PJ (s:={s with heap:=x}) (p _ _ H) λh2 Z J l y=>?_)));refine Dl ⟨ahi adR _,uO N (abf W) M n 0 _ #[] Z rfl (act _) (N.keep _ _ _ st l y) J rfl (λj u e=>by simp at e) λO acc V K D L G=>fin f O acc V (λb o B q=>K b o (λz=>by rw[z,U]at q;cases q) B (y b o B (p b o q))) D L G⟩
def lW{T:String}{St:Addr->Nat->aaX->Prop}{Q:List lD->mT->Prop}(y:s.TypeIs (.ref v) T)(t:T = "dict_items" \/ T = "dict")(G:n≤aad)
  (c:∀(s:mT) (Q:Bool->mT->Prop) (E:lD->mT->Prop),s.TypeIs (.ref v) T->Q false s->wpAny (model prog w) A.in1 (abE (.ref v)) Q E s)
  (a:∀(s1:mT) (Q:lD->mT->Prop) (E:lD->mT->Prop),(∀b o,s.heap.get? b=some o->s1.heap.get? b=some o)->(∃o,s1.heap.get? s.heap.objs.size=some o)->(∀h' f,f≠s.heap.objs.size->Nx prog w A.in1 s.heap.objs.size f n (St f) (P f)->St f 0 h'->(∀b o,s1.heap.get? b=some o->h'.get? b=some o)->s1.heap.get? f=none->Q (.ref f) {s1 with heap:=h' })->wpAny (model prog w) A.in1 (ae4 (.ref v)) Q E s1)
  (fin:∀f h' (acc:Array lD),(∀b o,s.heap.get? b=some o->h'.get? b=some o)->s.heap.objs.size<h'.objs.size->acc.size=n->(∀j u,acc[j]?=some u->P f h' j u)->Q acc.toList {s with heap:=h' }):wpAny (model prog w) A (collect (.ref v)) Q E s:=by
 have new:lz _ s.heap.objs.size #[] 0:=aaa _ rfl;have e:∀b o,s.heap.get? b=some o->(s.heap.push {cls:=.type "list",data:=.seq #[]}).get? b=some o:=λb o q=>AD _ q;have C:s.heap.objs.size≠v:=by
  let⟨o,q,_⟩:=y;exact aaY (OR q)
 have x:aeQ {s with heap:=s.heap.push {cls:=.type "list",data:=.seq #[]} } (.ref v) T:=by
  let⟨o,B,D⟩:=y;exact⟨o,e _ _ B,D⟩
 refine aD (m:=runValue _) (wpAny_runValue (afc F.entry_proto_collect (aD (m:=newList []) (aaV (Dl ⟨ahi F.plain_list_iadd _,?_⟩)))));refine Dm x t C new G c (λQ E h=>a {s with heap:=s.heap.push {cls:=.type "list",data:=.seq #[]} } Q E e ⟨_,new⟩ h) λf h' acc H k l z p=>?_;refine aD (m:=load s.heap.objs.size) (wpAny_load l ?_);exact Dl (fin f h' acc (λb o q=>k b o (aaS (OR q)) (e b o q)) (OR l) z p)
end
end L2
namespace L2
open PySem PySem.Spec PySem.W PyProof.Rows
variable{x:Keyed}{N hi i ia ib j lo n na nb y:Nat}{st st':aa2}{Q:Option Bool->aa2->Prop}{left:Bool}{a arr b:Array Keyed}{g:Keyed->Keyed->Bool}{l tot:List Keyed}{r:Option (Array Keyed)}{vs:List lD}{ds:List dL}{B:Addr}{kvs:List (dL×dL)}{es:List (V×V)}{o:Expr}{apos cpos pos:Pos}
noncomputable def gal:=sortPriv% PySem.Builtin.gallop
section
variable {prog:aaD}{w:World}{A:aa6}{E:lD->mT->Prop}{s:mT}
structure Orc(prog:aaD)(w:World)(A:aa6)(s:mT)(κ:ae2)(g:Keyed->Keyed->Bool)(it:List Keyed):Prop where
 ask:∀x∈it,∀y∈it,∀C:Bool->mT->Prop,C (g x y) s->wpAny (model prog w) A (keyLt' κ x.1 y.1) C (λ_ _=>False) s
 tr:∀x∈it,∀y∈it,∀z∈it,g x y=true->g y z=true->g x z=true
 tot:∀x∈it,∀y∈it,x≠y->g x y=true\/g y x=true
 irr:∀x∈it,g x x=false
variable {κ:ae2}{g:Keyed->Keyed->Bool}{it:List Keyed} (O:Orc prog w A s κ g it)
include O
theorem ux{y:Keyed}(c:kindOf st=κ)(d:x∈it)(e:y∈it)(h:Q (some (g x y)) st):wpS (model prog w) A E s (lt' x y) Q st:=by
 rw[lt'_eq];refine aas (afk ?_);rw[c];refine aas ?_;refine agb (ab3 (acy (O.ask x d y e _ ?_) (λ_ _ q=>q) λ_ _ q=>q.elim));exact⟨rfl,aaf h⟩
noncomputable def bey(g:Keyed->Keyed->Bool)(left:Bool)(key x:Keyed):Bool:=if left=true then g x key else !g key x
theorem Jw{key:Keyed}(d:kindOf st=κ)(c:key∈it)(e:arr[j]?=some x)(f:x∈it)(h:Q (some (bey g left key x)) st) :
  wpS (model prog w) A E s (elem' arr j >>= λx=>if left=true then lt' x key else lt' key x >>= λr=>pure (r.map λx=>!x)) Q st:=by
 rw[elem'_eq,e];refine aas (aaf ?_);unfold bey at h
 cases left with
 |true=>exact ux O d f c h
 |false=>exact aas (ux O d c f (aaf h))
theorem JL{key:Keyed}{base d:Nat}{Q:Option Nat->aa2->Prop}{b:Nat->Bool}(H:kindOf st=κ)(t:key∈it)(G:d<n)(hb:∀i,i<n->∃x,arr[base+i]?=some x/\x∈it/\bey g left key x=b i)
  (mono:∀i j,i≤j->j<n->b j=true->b i=true) (h:∀k,k≤n->(∀i,i<k->b i=true)->(∀i,k≤i->i<n->b i=false)->Q (some k) st):wpS (model prog w) A E s (gal left key arr base n d) Q st:=by
 have B:∀i,i<n->∀(D:Option Bool->aa2->Prop),D (some (b i)) st->wpS (model prog w) A E s (elem' arr (base+i) >>= λx=>if left=true then lt' x key else lt' key x >>= λr=>pure (r.map λx=>!x)) D st:=λi hi D q=>by
  let⟨x,e,J,eb⟩:=hb i hi;exact Jw O H t e J (by rw[eb];exact q)
 have u:∀i j,i≤j->j<n->b i=false->b j=false:=λi j f m p=>by
  cases e:b j with
  |false=>rfl
  |true=>rw[mono i j f m e]at p;cases p
 apply aas;refine B d G _ ?_;dsimp only
 cases e0:b d with
 | true=>
  rw[if_pos rfl];refine aas (abF (abo (I:=λi c st'=>st=st'/\∃l o,c=(none,l,o)/\d+l<n/\b (d+l)=true/\l<o/\i+1≤o) (Q:=λc st'=>st=st'/\∃l o,c=(none,l,o)/\b (d+l)=true/\d+l<n/\l<o/\(n-d≤o\/(d+o<n/\b (d+o)=false))) ?_ ?_ ?_) ?_)
  .rintro i c st' _ hi ⟨rfl,l,o,rfl,f,m,p,h4⟩;dsimp only
   by_cases z:o≥n-d
   .rw[if_pos z];exact aaf ⟨rfl,l,o,rfl,m,f,p,.inl z⟩
   .rw[if_neg z];apply aas;refine B _ (by omega) _ ?_;dsimp only
    cases e1:b (d+o)with
    |true=>exact aaf ⟨rfl,_,_,rfl,by omega,e1,by omega,by omega⟩
    |false=>exact aaf ⟨rfl,l,o,rfl,m,f,p,.inr ⟨by omega,e1⟩⟩
  .rintro c st' ⟨rfl,l,o,rfl,f,m,p,h4⟩;exact⟨rfl,l,o,rfl,m,f,p,.inl (by omega)⟩
  .exact⟨rfl,0,1,rfl,G,e0,by omega,by omega⟩
  .rintro c st' ⟨rfl,l,o,rfl,f,m,p,h4⟩;dsimp only;refine aas (abF (abo (I:=λi c st'=>st=st'/\∃lo hi,c=(none,lo,hi)/\lo≤hi/\hi≤n/\hi-lo≤n-i/\(∀i,i<lo->b i=true)/\∀i,hi≤i->i<n->b i=false) (Q:=λc st'=>st=st'/\∃k,c=(none,k,k)/\k≤n/\(∀i,i<k->b i=true)/\∀i,k≤i->i<n->b i=false) ?_ ?_ ?_) ?_)
   .rintro i c st' _ hi ⟨rfl,lo,hi,rfl,c1,c2,c3,c4,c5⟩;dsimp only
    by_cases z:lo≥hi
    .rw[if_pos z];exact aaf ⟨rfl,lo,by rw[show hi=lo by omega],by omega,c4,by rwa[show hi=lo by omega]at c5⟩
    .rw[if_neg z];apply aas;refine B _ (by omega) _ ?_;dsimp only
     cases e1:b (lo+(hi-lo)/2)with
     |true=>exact aaf ⟨rfl,_,_,rfl,by omega,c2,by omega,λi hi=>mono i _ (by omega) (by omega) e1,c5⟩
     |false=>exact aaf ⟨rfl,_,_,rfl,by omega,by omega,by omega,c4,λi f m=>u _ i f m e1⟩
   .rintro c st' ⟨rfl,lo,hi,rfl,c1,c2,c3,c4,c5⟩;have:hi=lo:=by omega
    subst this;exact⟨rfl,hi,rfl,c2,c4,c5⟩
   .refine⟨rfl,_,_,rfl,by omega,by omega,by omega,λi hi=>mono i _ (by omega) m f,λi F C=>?_⟩;rcases h4 with z|⟨K,v⟩
    .omega
    .exact u _ i (by omega) C v
   .rintro c st' ⟨rfl,k,rfl,c2,c4,c5⟩;exact aaf (h k c2 c4 c5)
 | false=>
  rw[if_neg (by decide)];refine aas (abF (abo (I:=λi c st'=>st=st'/\∃l o,c=(none,l,o)/\l≤d/\b (d-l)=false/\l<o/\i+1≤o) (Q:=λc st'=>st=st'/\∃l o,c=(none,l,o)/\b (d-l)=false/\l≤d/\l<o/\(d+1≤o\/(o≤d/\b (d-o)=true))) ?_ ?_ ?_) ?_)
  .rintro i c st' _ hi ⟨rfl,l,o,rfl,f,m,p,h4⟩;dsimp only
   by_cases z:o≥d+1
   .rw[if_pos z];exact aaf ⟨rfl,l,o,rfl,m,f,p,.inl z⟩
   .rw[if_neg z];apply aas;refine B _ (by omega) _ ?_;dsimp only
    cases e1:b (d-o)with
    |true=>exact aaf ⟨rfl,l,o,rfl,m,f,p,.inr ⟨by omega,e1⟩⟩
    |false=>exact aaf ⟨rfl,_,_,rfl,by omega,e1,by omega,by omega⟩
  .rintro c st' ⟨rfl,l,o,rfl,f,m,p,h4⟩;exact⟨rfl,l,o,rfl,m,f,p,.inl (by omega)⟩
  .exact⟨rfl,0,1,rfl,by omega,e0,by omega,by omega⟩
  .rintro c st' ⟨rfl,l,o,rfl,f,m,p,h4⟩;dsimp only;refine aas (abF (abo (I:=λi c st'=>st=st'/\∃lo hi,c=(none,lo,hi)/\lo≤hi/\hi≤n/\hi-lo≤n-i/\(∀i,i<lo->b i=true)/\∀i,hi≤i->i<n->b i=false) (Q:=λc st'=>st=st'/\∃k,c=(none,k,k)/\k≤n/\(∀i,i<k->b i=true)/\∀i,k≤i->i<n->b i=false) ?_ ?_ ?_) ?_)
   .rintro i c st' _ hi ⟨rfl,lo,hi,rfl,c1,c2,c3,c4,c5⟩;dsimp only
    by_cases z:lo≥hi
    .rw[if_pos z];exact aaf ⟨rfl,lo,by rw[show hi=lo by omega],by omega,c4,by rwa[show hi=lo by omega]at c5⟩
    .rw[if_neg z];apply aas;refine B _ (by omega) _ ?_;dsimp only
     cases e1:b (lo+(hi-lo)/2)with
     |true=>exact aaf ⟨rfl,_,_,rfl,by omega,c2,by omega,λi hi=>mono i _ (by omega) (by omega) e1,c5⟩
     |false=>exact aaf ⟨rfl,_,_,rfl,by omega,by omega,by omega,c4,λi f m=>u _ i f m e1⟩
   .rintro c st' ⟨rfl,lo,hi,rfl,c1,c2,c3,c4,c5⟩;have:hi=lo:=by omega
    subst this;exact⟨rfl,hi,rfl,c2,c4,c5⟩
   .refine⟨rfl,_,_,rfl,by omega,by omega,by omega,λi hi=>?_,λi F C=>u _ i F C f⟩;rcases h4 with z|⟨K,v⟩
    .omega
    .exact mono i _ (by omega) (by omega) v
   .rintro c st' ⟨rfl,k,rfl,c2,c4,c5⟩;exact aaf (h k c2 c4 c5)
end
section
variable {α:Type}{g:α->α->Bool}{tot out ra rb xs:List α}
structure Mg(g:α->α->Bool)(tot out ra rb:List α):Prop where
 pm:(out++(ra++rb)).Perm tot
 so:out.Pairwise (g · · = true)
 sa:ra.Pairwise (g · · = true)
 sb:rb.Pairwise (g · · = true)
 la:∀x∈out,∀y∈ra,g x y=true
 lb:∀x∈out,∀y∈rb,g x y=true
structure Srt(g:α->α->Bool)(tot r:List α):Prop where
 pm:r.Perm tot
 so:r.Pairwise (g · · = true)
def Mg.sym(h:Mg g tot out ra rb):Mg g tot out rb ra:=⟨((List.perm_append_comm).append_left _).trans h.pm,h.so,h.sb,h.sa,h.lb,h.la⟩
def Mg.app(h:Mg g tot out (xs++ra) rb)(d:∀x∈xs,∀y∈rb,g x y=true):Mg g tot (out++xs) ra rb:=
 ⟨by have:=h.pm;simp only[abg]at this⊢;exact this,
  acw.mpr ⟨h.so,(acw.mp h.sa).1,λx d y c=>h.la x d y (aeR _ c)⟩,
  (acw.mp h.sa).2.1,h.sb,
  λx q y c=>(aaO.mp q).elim (λq=>h.la x q y (aa5 _ c)) λq=>(acw.mp h.sa).2.2 x q y c,
  λx q y c=>(aaO.mp q).elim (λq=>h.lb x q y c) λq=>d x q y c⟩
def Mg.fin(h:Mg g tot out ra rb)(d:∀x∈ra,∀y∈rb,g x y=true):Srt g tot (out++ra++rb):=
 ⟨by rw[abg];exact h.pm,by
  rw[abg];exact acw.mpr ⟨h.so,acw.mpr ⟨h.sa,h.sb,d⟩,λx q y c=>(aaO.mp c).elim (h.la x q y) (h.lb x q y)⟩⟩
end
noncomputable abbrev pK(a:Array Keyed)(i:Nat):Keyed:=a.getD i (.none,.none)
theorem fV(h:i<a.size):a[i]?=some (pK a i):=by simp_all
def QU(h:i<a.size):a.toList.drop i=pK a i::a.toList.drop (i+1):=by
 rw[adM (by simpa using h)];simp[h]
def mem_dropK:x∈a.toList.drop i↔∃j,i≤j/\j<a.size/\x=pK a j:=by
 constructor
 .intro h;let⟨j,q,e⟩:=afg h;have c:i+j<a.size:=by simp at q;omega
  refine⟨i+j,by omega,c,?_⟩;rw[<-e];simp[c]
 .rintro⟨j,h1,h2,rfl⟩;rw[aa0];exact⟨j-i,by simp;omega,by simp[h2,show i+(j-i)=j by omega]⟩
def j8{k:Nat}(h:i+k≤a.size):x∈(a.toList.drop i).take k↔∃j,i≤j/\j<i+k/\x=pK a j:=by
 constructor
 .intro h;let⟨j,q,e⟩:=afg h;have c:i+j<a.size/\j<k:=by simp at q;omega
  refine⟨i+j,by omega,by omega,?_⟩;rw[<-e];simp[c.1]
 .rintro⟨j,h1,h2,rfl⟩;have d:j<a.size:=by omega
  rw[aa0];exact⟨j-i,by simp;omega,by simp[d,show i+(j-i)=j by omega]⟩
section
variable {a b out:Array Keyed}{c d k:Nat}{g:Keyed->Keyed->Bool}{tot r:List Keyed}
def Mg.push(h:Mg g tot out.toList (a.toList.drop c) r)(hi:c<a.size)(lt:∀y∈r,g (pK a c) y=true):Mg g tot (out.push (pK a c)).toList (a.toList.drop (c+1)) r:=by
 rw[QU hi]at h;rw[aep];exact Mg.app (xs:=[_]) h λx e=>by cases aab.mp e;exact lt
def extK:(a.extract c (c+k)).toList=(a.toList.drop c).take k:=by simp
def Mg.ext(h:Mg g tot out.toList (a.toList.drop c) r)(lt:∀x∈(a.toList.drop c).take k,∀y∈r,g x y=true):Mg g tot (out++a.extract c (c+k)).toList (a.toList.drop (c+k)) r:=by
 rw[acb,extK];refine Mg.app ?_ lt;rw[<-List.drop_drop,adv];exact h
def CA:(a.extract c a.size).toList=a.toList.drop c:=by simp[aek]
theorem Mg.doneA(h:Mg g tot out.toList (a.toList.drop c) (b.toList.drop d))(e:c=a.size\/d=b.size):Srt g tot (out++a.extract c a.size++b.extract d b.size).toList:=by
 rw[acb,acb,CA,CA];refine h.fin λx f y m=>?_;let⟨i,q,p,_⟩:=mem_dropK.mp f;let⟨j,s,t,_⟩:=mem_dropK.mp m;omega
def Mg.doneB(h:Mg g tot out.toList (a.toList.drop c) (b.toList.drop d))(e:∀y∈b.toList.drop d,∀x∈a.toList.drop c,g y x=true):Srt g tot (out++b.extract d b.size++a.extract c a.size).toList:=by
 rw[acb,acb,CA,CA];exact h.sym.fin e
end
noncomputable def setG(st:aa2)(m:Nat):aa2:=afB (kindOf st) (arrOf st) (aaZ st) m (afC st)
noncomputable def sMG:=sortPriv% PySem.Builtin.setMinGallop
noncomputable def mLo:=sortPriv% PySem.Builtin.mergeLo
noncomputable def mHi:=sortPriv% PySem.Builtin.mergeHi
section
variable {prog:aaD}{w:World}{A:aa6}{E:lD->mT->Prop}{s:mT}{l β:Type}{Q:β->aa2->Prop}{st:aa2}
def bM{c:Prop}[Decidable c]{p q:StateT aa2 Sem β}(d:c->wpS (model prog w) A E s p Q st)(h:¬c->wpS (model prog w) A E s q Q st):wpS (model prog w) A E s (if c then p else q) Q st:=by
 by_cases z:c
 .rw[if_pos z];exact d z
 .rw[if_neg z];exact h z
def dA{f:Keyed->StateT aa2 Sem β}(hi:i<arr.size)(h:wpS (model prog w) A E s (f (pK arr i)) Q st):wpS (model prog w) A E s (elem' arr i >>= f) Q st:=by
 rw[elem'_eq,fV hi];exact aas (aaf h)
def vi{m c:Nat}{f:Unit->StateT aa2 Sem β}(h:wpS (model prog w) A E s (f ()) Q (setG st c)):wpS (model prog w) A E s (sMG c >>= f) Q (setG st m):=aas (aeK h)
variable {d:ae2}{g:Keyed->Keyed->Bool}{a:List Keyed} (O:Orc prog w A s d g a)
include O
theorem Orc.no{y:Keyed}(c:x∈a)(f:y∈a)(h:x≠y)(e:g x y=false):g y x=true:=(O.tot x c y f h).resolve_left (by rw[e];decide)
theorem Orc.as{y:Keyed}(h:x∈a)(c:y∈a)(e:g x y=true):g y x=false:=by
 cases z:g y x with
 |false=>rfl
 |true=>exact absurd (O.tr x h y c x h e z) (by rw[O.irr x h];decide)
theorem O5{y:Keyed}{f:Option Bool->StateT aa2 Sem β}(c:kindOf st=d)(e:x∈a)(k:y∈a)(h:wpS (model prog w) A E s (f (some (g x y))) Q st):wpS (model prog w) A E s (lt' x y >>= f) Q st:=aas (ux O c e k h)
theorem nr{key:Keyed}{base m:Nat}{f:Option Nat->StateT aa2 Sem β}(F:kindOf st=d)(c:key∈a)(G:m<n)(t:∀i,i<n->base+i<arr.size/\pK arr (base+i)∈a/\pK arr (base+i)≠key)
  (so:∀i j,i<j->j<n->g (pK arr (base+i)) (pK arr (base+j))=true) (h:∀k,k≤n->(∀i,i<k->g (pK arr (base+i)) key=true)->(∀i,k≤i->i<n->g key (pK arr (base+i))=true)->wpS (model prog w) A E s (f (some k)) Q st):wpS (model prog w) A E s (gal left key arr base n m >>= f) Q st:=by
 refine aas (JL O (b:=λi=>g (pK arr (base+i)) key) F c G (λi hi=>?_) (λi j u D e=>?_) λk v q C=>h k v q λi hi p=>?_)
 .obtain⟨v,q,C⟩:=t i hi;refine⟨_,fV v,q,?_⟩;unfold bey
  cases left with
  |true=>rfl
  |false=>
   rw[if_neg (by decide)]
   cases e:g key (pK arr (base+i))with
   |true=>exact(O.as c q e).symm
   |false=>exact(O.no c q (abf C) e).symm
 .rcases aeb u with z|z
  .exact O.tr _ (t i (by omega)).2.1 _ (t j D).2.1 _ c (so i j z D) e
  .subst z;exact e
 .exact O.no (t i p).2.1 c (t i p).2.2 (C i hi p)
end
structure Two(g:Keyed->Keyed->Bool)(it:List Keyed)(a b:Array Keyed):Prop where
 ma:∀i,i<a.size->pK a i∈it
 mb:∀i,i<b.size->pK b i∈it
 sa:∀i j,i<j->j<a.size->g (pK a i) (pK a j)=true
 sb:∀i j,i<j->j<b.size->g (pK b i) (pK b j)=true
 dj:∀i j,i<a.size->j<b.size->pK a i≠pK b j
theorem Two.sym{c:List Keyed}(h:Two g c a b):Two g c b a:=⟨h.mb,h.ma,h.sb,h.sa,λi j hi d z=>h.dj j i d hi z.symm⟩
section
variable {prog:aaD}{w:World}{A:aa6}{E:lD->mT->Prop}{s:mT}{β:Type}{Q:β->aa2->Prop}{st:aa2}
variable {o:ae2}{g:Keyed->Keyed->Bool}{p:List Keyed} (O:Orc prog w A s o g p) {a b:Array Keyed} (T:Two g p a b)
include O T
theorem Two.all(hi:i<a.size)(d:j<b.size)(e:g (pK a i) (pK b j)=true):∀y∈b.toList.drop j,g (pK a i) y=true:=λy f=>by
 let⟨k,c,h,rfl⟩:=mem_dropK.mp f;rcases aeb c with z|z
 .exact O.tr _ (T.ma i hi) _ (T.mb j d) _ (T.mb k h) e (T.sb j k z h)
 .subst z;exact e
theorem Fc{f:Option Nat->StateT aa2 Sem β}(m:kindOf st=o)(hb:ib<b.size)(ha:ia<a.size)(q:n=a.size-ia)
  (h:∀k,ia+k≤a.size->(∀x∈(a.toList.drop ia).take k,∀y∈b.toList.drop ib,g x y=true)->(∀y∈a.toList.drop (ia+k),g (pK b ib) y=true)->wpS (model prog w) A E s (f (some k)) Q st):wpS (model prog w) A E s (gal left (pK b ib) a ia n 0 >>= f) Q st:=by
 subst q;refine nr O m (T.mb ib hb) (by omega) (λi hi=>⟨by omega,T.ma _ (by omega),T.dj _ _ (by omega) hb⟩) (λi j d z=>T.sa _ _ (by omega) (by omega)) λk v e t=>h k (by omega) (λx c=>?_) λy u=>?_
 .obtain⟨j,j1,j2,rfl⟩:=(j8 (by omega)).mp c;have:=e (j-ia) (by omega);rw[show ia+(j-ia)=j by omega]at this;exact T.all O (by omega) hb this
 .obtain⟨j,j1,j2,rfl⟩:=mem_dropK.mp u;have:=t (j-ia) (by omega) (by omega);rwa[show ia+(j-ia)=j by omega]at this
noncomputable def Ps(g:Keyed->Keyed->Bool)(tot:List Keyed)(a b:Array Keyed)(N:Nat)(out:Array Keyed)(ia ib:Nat):Prop:=Mg g tot out.toList (a.toList.drop ia) (b.toList.drop ib)/\ia+1<a.size/\ib<b.size/\N≤ia+ib
noncomputable def PsO(g:Keyed->Keyed->Bool)(tot:List Keyed)(a b:Array Keyed)(N:Nat)(r:Option (Array Keyed))(out:Array Keyed)(ia ib:Nat):Prop:=(r=none/\Ps g tot a b N out ia ib)\/∃x,r=some x/\Srt g tot x.toList
noncomputable abbrev MgS:=Option (Array Keyed)×Array Keyed×Nat×Nat×Nat×Nat×Nat
noncomputable def loP(g:Keyed->Keyed->Bool)(tot:List Keyed)(a b:Array Keyed)(N:Nat)(st:aa2):ForInStep MgS->aa2->Prop
 | .done c,st'=>∃m r out ia ib n x y,st'=setG st m/\c=(r,out,ia,ib,n,x,y)/\PsO g tot a b N r out ia ib
 | .yield c,st'=>∃m out ia ib n x y,st'=setG st m/\c=(none,out,ia,ib,n,x,y)/\Ps g tot a b N out ia ib
noncomputable def lo2(a b out:Array Keyed)(ia ib n x y:Nat):StateT aa2 Sem (ForInStep MgS):=do
 let v <- elem' a ia
 if (ia+1+1==a.size)=true then pure (.done (some (out.push v++b.extract ib b.size++a.extract (ia+1) a.size),out.push v,ia+1,ib,n,x,y))
 else if (decide (x<7)&&decide (y<7))=true then pure (.done (none,out.push v,ia+1,ib,n,x,y))
 else pure (.yield (none,out.push v,ia+1,ib,n,x,y))
omit O T in
theorem zp{out:Array Keyed}{x m:Nat}(M:Mg g tot out.toList (a.toList.drop ia) (b.toList.drop ib))(e:ia+1<a.size)(q:ib<b.size)(h:N≤ia+ib)(l:∀z∈b.toList.drop ib,g (pK a ia) z=true)
  (L:∀{ia ib:Nat},ia+1=a.size->∀y∈b.toList.drop ib,∀x∈a.toList.drop ia,g y x=true):wpS (model prog w) A E s (lo2 a b out ia ib n x y) (loP g tot a b N st) (setG st m):=by
 have p0:ia<a.size:=aev e;have c:=M.push p0 l;refine dA p0 (bM (λz=>?_) λz=>?_)
 .exact aaf ⟨_,_,_,_,_,_,_,_,rfl,rfl,.inr ⟨_,rfl,c.doneB (L (abA z))⟩⟩
 have d:ia+1+1<a.size:=by simp only[beq_iff_eq]at z;omega
 exact bM (λ_=>aaf ⟨_,_,_,_,_,_,_,_,rfl,rfl,.inl ⟨rfl,c,d,q,by omega⟩⟩) λ_=>aaf ⟨_,_,_,_,_,_,_,rfl,rfl,c,d,q,by omega⟩
noncomputable def lo1(a b out:Array Keyed)(ia ib n x y:Nat):StateT aa2 Sem (ForInStep MgS):=do
 let v <- elem' b ib
 if (ib+1==b.size)=true then pure (.done (some (out.push v++a.extract ia a.size++b.extract (ib+1) b.size),out.push v,ia,ib+1,n,x,y))
 else do
  let u <- elem' a ia
  let some k <- gal true u b (ib+1) (b.size-(ib+1)) 0|return .done (some (out.push v++a.extract ia a.size++b.extract (ib+1) b.size),out.push v,ia,ib+1,n,x,y)
  if k>0 then
   if (ib+1+k==b.size)=true then pure (.done (some (out.push v++b.extract (ib+1) (ib+1+k)++a.extract ia a.size++b.extract (ib+1+k) b.size),out.push v++b.extract (ib+1) (ib+1+k),ia,ib+1+k,n,x,k))
   else lo2 a b (out.push v++b.extract (ib+1) (ib+1+k)) ia (ib+1+k) n x k
  else lo2 a b (out.push v) ia (ib+1) n x k
theorem xj{out:Array Keyed}{x m:Nat}(u:kindOf st=o)(M:Mg g tot out.toList (a.toList.drop ia) (b.toList.drop ib))(f:ia+1<a.size)(t:ib<b.size)(D:N≤ia+ib)(l:∀z∈a.toList.drop ia,g (pK b ib) z=true)
  (L:∀{ia ib:Nat},ia+1=a.size->∀y∈b.toList.drop ib,∀x∈a.toList.drop ia,g y x=true):wpS (model prog w) A E s (lo1 a b out ia ib n x y) (loP g tot a b N st) (setG st m):=by
 have p0:ia<a.size:=aev f;have d:=(M.sym.push t l).sym;refine dA t (bM (λz=>?_) λz=>?_)
 .exact aaf ⟨_,_,_,_,_,_,_,_,rfl,rfl,.inr ⟨_,rfl,d.doneA (.inr (abA z))⟩⟩
 have q:ib+1<b.size:=by simp only[beq_iff_eq]at z;omega
 refine dA p0 (Fc O T.sym u p0 q rfl λk C v h=>bM (λc=>?_) λc=>?_)
 .have M3:=(d.sym.ext v).sym;refine bM (λz=>?_) λz=>?_
  .exact aaf ⟨_,_,_,_,_,_,_,_,rfl,rfl,.inr ⟨_,rfl,M3.doneA (.inr (abA z))⟩⟩
  exact zp M3 f (by simp only[beq_iff_eq]at z;omega) (by omega) h L
 .have e:k=0:=by omega
  subst e;exact zp d f q (by omega) h L
noncomputable def loI(a b out:Array Keyed)(ia ib n x y:Nat):StateT aa2 Sem (ForInStep (Option (Array Keyed)×Array Keyed×Nat×Nat×Nat×Nat)):=do
 let u <- elem' b ib
 let v <- elem' a ia
 let some z <- lt' u v|return .done (some (out++a.extract ia a.size++b.extract ib b.size),out,ia,ib,x,y)
 if z=true then do
  let v <- elem' b ib
  if (ib+1==b.size)=true then pure (.done (some (out.push v++a.extract ia a.size++b.extract (ib+1) b.size),out.push v,ia,ib+1,0,y+1))
  else if y+1≥n then pure (.done (none,out.push v,ia,ib+1,0,y+1))
  else pure (.yield (none,out.push v,ia,ib+1,0,y+1))
 else do
  let v <- elem' a ia
  if (ia+1+1==a.size)=true then pure (.done (some (out.push v++b.extract ib b.size++a.extract (ia+1) a.size),out.push v,ia+1,ib,x+1,0))
  else if x+1≥n then pure (.done (none,out.push v,ia+1,ib,x+1,0))
  else pure (.yield (none,out.push v,ia+1,ib,x+1,0))
noncomputable def loQ(g:Keyed->Keyed->Bool)(tot:List Keyed)(a b:Array Keyed)(N j:Nat)(st:aa2):ForInStep (Option (Array Keyed)×Array Keyed×Nat×Nat×Nat×Nat)->aa2->Prop
 | .done c,st'=>∃m r out ia ib x y,st'=setG st m/\c=(r,out,ia,ib,x,y)/\PsO g tot a b (N+1) r out ia ib
 | .yield c,st'=>∃m out ia ib x y,st'=setG st m/\c=(none,out,ia,ib,x,y)/\Ps g tot a b (N+(j+1)) out ia ib
theorem Ic{out:Array Keyed}{x m:Nat}(h:kindOf st=o)(P:Ps g tot a b (N+j) out ia ib)
  (L:∀{ia ib:Nat},ia+1=a.size->∀y∈b.toList.drop ib,∀x∈a.toList.drop ia,g y x=true):wpS (model prog w) A E s (loI a b out ia ib n x y) (loQ g tot a b N j st) (setG st m):=by
 have d:=P.2.1;have c:=P.2.2.1;have f:=P.2.2.2;have p0:ia<a.size:=aev d;refine dA c (dA p0 (O5 O h (T.mb _ c) (T.ma _ p0) ?_))
 cases e:g (pK b ib) (pK a ia)with
 |true=>
  have M:=(P.1.sym.push c (T.sym.all O c p0 e)).sym;refine dA c (bM (λz=>aaf ⟨_,_,_,_,_,_,_,rfl,rfl,.inr ⟨_,rfl,M.doneA (.inr (abA z))⟩⟩) λz=>?_);have q:ib+1<b.size:=by simp only[beq_iff_eq]at z;omega
  exact bM (λ_=>aaf ⟨_,_,_,_,_,_,_,rfl,rfl,.inl ⟨rfl,M,d,q,by omega⟩⟩) λ_=>aaf ⟨_,_,_,_,_,_,rfl,rfl,M,d,q,by omega⟩
 |false=>
  have M:=P.1.push p0 (T.all O p0 c (O.no (T.mb _ c) (T.ma _ p0) (abf (T.dj _ _ p0 c)) e));refine dA p0 (bM (λz=>aaf ⟨_,_,_,_,_,_,_,rfl,rfl,.inr ⟨_,rfl,M.doneB (L (abA z))⟩⟩) λz=>?_);have q:ia+1+1<a.size:=by simp only[beq_iff_eq]at z;omega
  exact bM (λ_=>aaf ⟨_,_,_,_,_,_,_,rfl,rfl,.inl ⟨rfl,M,q,c,by omega⟩⟩) λ_=>aaf ⟨_,_,_,_,_,_,rfl,rfl,M,q,c,by omega⟩
noncomputable def lo0(a b out:Array Keyed)(ia ib n x y:Nat):StateT aa2 Sem (ForInStep MgS):=do
 sMG n
 let u <- elem' b ib
 let some k <- gal false u a ia (a.size-ia) 0|return .done (some (out++a.extract ia a.size++b.extract ib b.size),out,ia,ib,n,x,y)
 if k>0 then
  if (ia+k+1==a.size)=true then pure (.done (some (out++a.extract ia (ia+k)++b.extract ib b.size++a.extract (ia+k) a.size),out++a.extract ia (ia+k),ia+k,ib,n,k,y))
  else if (ia+k==a.size)=true then pure (.done (some (out++a.extract ia (ia+k)++a.extract (ia+k) a.size++b.extract ib b.size),out++a.extract ia (ia+k),ia+k,ib,n,k,y))
  else lo1 a b (out++a.extract ia (ia+k)) (ia+k) ib n k y
 else lo1 a b out ia ib n k y
theorem Ab{out:Array Keyed}{x m:Nat}(h:kindOf st=o)(P:Ps g tot a b N out ia ib)
  (L:∀{ia ib:Nat},ia+1=a.size->∀y∈b.toList.drop ib,∀x∈a.toList.drop ia,g y x=true):wpS (model prog w) A E s (lo0 a b out ia ib n x y) (loP g tot a b N st) (setG st m):=by
 have t:=P.2.1;have d:=P.2.2.1;have u:=P.2.2.2;have p0:ia<a.size:=aev t;refine vi (dA d (Fc O T h d p0 rfl λk C v q=>bM (λc=>?_) λc=>?_))
 .have M1:=P.1.ext v;refine bM (λz=>aaf ⟨_,_,_,_,_,_,_,_,rfl,rfl,.inr ⟨_,rfl,M1.doneB (L (abA z))⟩⟩) λz=>bM (λf=>aaf ⟨_,_,_,_,_,_,_,_,rfl,rfl,.inr ⟨_,rfl,M1.doneA (.inl (abA f))⟩⟩) λf=>?_;exact xj O T h M1 (by simp only[beq_iff_eq]at z f;omega) d (by omega) q L
 .have e:k=0:=by omega
  subst e;exact xj O T h P.1 t d u q L
noncomputable def LoJ(g:Keyed->Keyed->Bool)(tot:List Keyed)(a b:Array Keyed)(N:Nat)(st:aa2)(r:Option (Array Keyed))(out:Array Keyed)(ia ib:Nat)(st':aa2):Prop:=r=none/\(∃m,st'=setG st m)/\Ps g tot a b N out ia ib
noncomputable def LoK(g:Keyed->Keyed->Bool)(tot:List Keyed)(a b:Array Keyed)(N:Nat)(st:aa2)(r:Option (Array Keyed))(out:Array Keyed)(ia ib:Nat)(st':aa2):Prop:=(∃m,st'=setG st m)/\PsO g tot a b N r out ia ib
theorem Qb{out:Array Keyed}{x:Nat}(d:kindOf st=o)(J:LoJ g tot a b (N+j) st r out ia ib st')
  (L:∀{ia ib:Nat},ia+1=a.size->∀y∈b.toList.drop ib,∀x∈a.toList.drop ia,g y x=true):wpS (model prog w) A E s (loI a b out ia ib n x y) (λr st'=>∃c,(r = .done c/\LoK g tot a b (N+1) st c.fst c.snd.fst c.snd.snd.fst c.snd.snd.snd.fst st')\/(r = .yield c/\LoJ g tot a b (N+(j+1)) st c.fst c.snd.fst c.snd.snd.fst c.snd.snd.snd.fst st')) st':=by
 let⟨_,⟨m,rfl⟩,P⟩:=J;refine abF (Ic O T d P L) λr st' h=>?_
 cases r with
 |done c=>let⟨m,r,out,ia,ib,x,y,rfl,rfl,P⟩:=h;exact⟨_,.inl ⟨rfl,⟨m,rfl⟩,P⟩⟩
 |yield c=>let⟨m,out,ia,ib,x,y,rfl,rfl,P⟩:=h;exact⟨_,.inr ⟨rfl,rfl,⟨m,rfl⟩,P⟩⟩
theorem On{out:Array Keyed}{n' x:Nat}{d:Prop}[Decidable d](e:kindOf st=o)(J:LoJ g tot a b N st r out ia ib st')
  (L:∀{ia ib:Nat},ia+1=a.size->∀y∈b.toList.drop ib,∀x∈a.toList.drop ia,g y x=true):wpS (model prog w) A E s (if d then lo0 a b out ia ib n x y else lo0 a b out ia ib n' x y) (λr st'=>∃c,(r = .done c/\LoK g tot a b N st c.fst c.snd.fst c.snd.snd.fst c.snd.snd.snd.fst st')\/(r = .yield c/\LoJ g tot a b N st c.fst c.snd.fst c.snd.snd.fst c.snd.snd.snd.fst st')) st':=by
 let⟨_,⟨m,rfl⟩,P⟩:=J;refine abF (bM (λ_=>Ab O T e P L) λ_=>Ab O T e P L) λr st' h=>?_
 cases r with
 |done c=>let⟨m,r,out,ia,ib,n,x,y,rfl,rfl,P⟩:=h;exact⟨_,.inl ⟨rfl,⟨m,rfl⟩,P⟩⟩
 |yield c=>let⟨m,out,ia,ib,n,x,y,rfl,rfl,P⟩:=h;exact⟨_,.inr ⟨rfl,rfl,⟨m,rfl⟩,P⟩⟩
theorem LW{Q:Array Keyed->aa2->Prop}(t:kindOf st=o)(M:Mg g tot [] a.toList b.toList)(ha:0<a.size)(hb:0<b.size)(first:g (pK b 0) (pK a 0)=true)(d:∀j,j<b.size->g (pK b j) (pK a (a.size-1))=true)
  (h:∀r m,Srt g tot r.toList->Q r (setG st m)):wpS (model prog w) A E s (mLo a b) Q st:=by
 have L:∀{ia ib:Nat},ia+1=a.size->∀y∈b.toList.drop ib,∀x∈a.toList.drop ia,g y x=true:=λe y D x u=>by
  let⟨i,G,F,rfl⟩:=mem_dropK.mp u;let⟨j,H,C,rfl⟩:=mem_dropK.mp D;rw[show i=a.size-1 by omega];exact d j C
 have v:Mg g tot (#[]:Array Keyed).toList (a.toList.drop 0) (b.toList.drop 0):=M;have k:=(v.sym.push hb (T.sym.all O hb ha first)).sym;apply aas;refine agb (abH ⟨rfl,?_⟩);dsimp only;refine dA hb ?_;refine bM (λz=>?_) λz=>bM (λf=>?_) λf=>?_
 .exact aaf (h _ (agW st) (k.doneA (.inr (abA z))))
 .exact aaf (h _ (agW st) (k.doneB (L (abA f))))
 simp only[beq_iff_eq]at z f;refine aas (afk (aas (abF (abo (I:=λi c st'=>LoJ g tot a b (i+1) st c.fst c.snd.fst c.snd.snd.fst c.snd.snd.snd.fst st') (Q:=λc st'=>(∃m,st'=setG st m)/\∃r,c.fst=some r/\Srt g tot r.toList) (λi c st' _ _ J=>?_) (λc st' J=>by have:=J.2.2.2;omega) ⟨rfl,⟨agW st,rfl⟩,k,show 0+1<a.size by omega,show 1<b.size by omega,Ad 1⟩) λc st' J=>?_)))
 rotate_left
 .obtain⟨⟨m,rfl⟩,r,e,R⟩:=J;rw[e];exact aaf (h _ _ R)
 refine aas (abF (abo (I:=λj c st'=>LoJ g tot a b (i+1+j) st c.fst c.snd.fst c.snd.snd.fst c.snd.snd.snd.fst st') (Q:=λc st'=>LoK g tot a b (i+1+1) st c.fst c.snd.fst c.snd.snd.fst c.snd.snd.snd.fst st') (λj c st' _ _ J=>abF (Qb O T t J L) λr st' h=>by obtain⟨c,⟨rfl,h⟩|⟨rfl,h⟩⟩:=h<;>exact h) (λc st' J=>⟨J.2.1,.inl ⟨J.1,J.2.2.1,J.2.2.2.1,J.2.2.2.2.1,by have:=J.2.2.2;omega⟩⟩) ⟨rfl,J.2⟩) λc st' J=>J.2.elim (λq=>?_) λq=>?_)
 rotate_left
 .obtain⟨r,e,R⟩:=q;rw[e];exact aaf ⟨J.1,_,rfl,R⟩
 rw[q.1];apply aas;refine agb (abH ⟨rfl,?_⟩);refine aas (abF (abo (I:=λ_ c st'=>LoJ g tot a b (i+1+1) st c.fst c.snd.fst c.snd.snd.fst c.snd.snd.snd.fst st') (Q:=λc st'=>LoK g tot a b (i+1+1) st c.fst c.snd.fst c.snd.snd.fst c.snd.snd.snd.fst st') (λj c st' _ _ J=>abF (On O T t J L) λr st' h=>by obtain⟨c,⟨rfl,h⟩|⟨rfl,h⟩⟩:=h<;>exact h) (λc st' J=>⟨J.2.1,.inl ⟨J.1,J.2.2⟩⟩) ⟨rfl,J.1,q.2⟩) λc st' J=>J.2.elim (λq=>?_) λq=>?_)
 rotate_left
 .obtain⟨r,e,R⟩:=q;rw[e];exact aaf ⟨J.1,_,rfl,R⟩
 rw[q.1];let⟨⟨m,rfl⟩,_⟩:=J;exact vi (aaf ⟨rfl,⟨_,rfl⟩,q.2⟩)
end
noncomputable abbrev ta(a:Array Keyed)(n:Nat):List Keyed:=(a.toList.take n).reverse
noncomputable abbrev fl(g:Keyed->Keyed->Bool)(x y:Keyed):Bool:=g y x
def Jz(h:n<a.size):ta a (n+1)=pK a n::ta a n:=by
 show(ag3 (n+1) a.toList).reverse=_;rw[List.take_succ_eq_append_getElem (by simpa using h),aha];simp[h]
theorem rg(h:n≤a.size):x∈ta a n↔∃j,j<n/\x=pK a j:=by
 have:=j8 (a:=a) (i:=0) (k:=n) (x:=x) (by omega);simp only[afs,abK,act,true_and]at this;rw[List.mem_reverse];exact this
def Srt.rev(h:Srt (fl g) tot l):Srt g tot l.reverse:=⟨(afN _).trans h.pm,aeB.mpr h.so⟩
section
variable {a b out:Array Keyed}{n c k:Nat}{g:Keyed->Keyed->Bool}{tot r:List Keyed}
def Mg.pushH(h:Mg (fl g) tot out.toList (ta a (n+1)) r)(hi:n<a.size)(lt:∀y∈r,g y (pK a n)=true):Mg (fl g) tot (out.push (pK a n)).toList (ta a n) r:=by
 rw[Jz hi]at h;rw[aep];exact Mg.app (xs:=[_]) h λx d=>by cases aab.mp d;exact lt
theorem Mg.extH(h:Mg (fl g) tot out.toList (ta a n) r)(q:k≤n)(p:n≤a.size)(lt:∀j,k≤j->j<n->∀y∈r,g y (pK a j)=true):Mg (fl g) tot (out++(a.extract k n).reverse).toList (ta a k) r:=by
 have e:ta a n=(a.extract k n).reverse.toList++ta a k:=by
  rw[Array.toList_reverse,<-aha,agX];show _=(ag3 k _++ag3 (n-k) _).reverse;rw[<-List.take_add,show k+(n-k)=n by omega]
 rw[acb];rw[e]at h;refine Mg.app h λx d=>?_;have:x∈(a.toList.drop k).take (n-k):=by simpa using d
 let⟨j,f,m,rfl⟩:=(j8 (by omega)).mp this;exact lt j f (by omega)
theorem Mg.doneH(h:Mg (fl g) tot out.toList (ta a n) (ta b c))(e:n=0\/c=0):Srt g tot (a.extract 0 n++b.extract 0 c++out.reverse).toList:=by
 have:=(h.sym.fin λx d y f=>by
  rcases e with e|e
  .subst e;simp at f
  .subst e;simp at d).rev
 simpa using this
def Mg.doneF(h:Mg (fl g) tot out.toList (ta a n) (ta b c))(d:∀x∈ta a n,∀y∈ta b c,g y x=true):Srt g tot (b.extract 0 c++a.extract 0 n++out.reverse).toList:=by
 have:=(h.fin d).rev;simpa using this
end
section
variable {prog:aaD}{w:World}{A:aa6}{E:lD->mT->Prop}{s:mT}{β:Type}{Q:β->aa2->Prop}{st:aa2}
variable {o:ae2}{g:Keyed->Keyed->Bool}{p:List Keyed} (O:Orc prog w A s o g p) {a b:Array Keyed} (T:Two g p a b)
include O T
theorem Two.allH(hi:i<a.size)(h:n<b.size)(e:g (pK b n) (pK a i)=true):∀y∈ta b (n+1),g y (pK a i)=true:=λy d=>by
 let⟨k,c,rfl⟩:=(rg (by omega)).mp d;rcases aeb (Nat.le_of_lt_succ c)with z|z
 .exact O.tr _ (T.mb k (by omega)) _ (T.mb n h) _ (T.ma i hi) (T.sb k n z h) e
 .subst z;exact e
theorem wQ{f:Option Nat->StateT aa2 Sem β}(q:kindOf st=o)(hb:nb<b.size)(ha:0<na)(z:na≤a.size)
  (h:∀k,k≤na->(∀j,k≤j->j<na->∀y∈ta b (nb+1),g y (pK a j)=true)->(∀y∈ta a k,g y (pK b nb)=true)->wpS (model prog w) A E s (f (some k)) Q st):wpS (model prog w) A E s (gal left (pK b nb) a 0 na (na-1) >>= f) Q st:=by
 refine nr O q (T.mb nb hb) (by omega) (λi hi=>?_) (λi j c e=>?_) λk t m u=>h k t (λj e d=>T.allH O (by omega) hb ?_) λy v=>?_
 .rw[abK];exact⟨by omega,T.ma _ (by omega),T.dj _ _ (by omega) hb⟩
 .rw[abK,abK];exact T.sa _ _ c (by omega)
 .have:=u j e d;rwa[abK]at this
 .obtain⟨j,j1,rfl⟩:=(rg (by omega)).mp v;have:=m j j1;rwa[abK]at this
noncomputable def Ph(g:Keyed->Keyed->Bool)(tot:List Keyed)(a b:Array Keyed)(N:Nat)(out:Array Keyed)(na nb:Nat):Prop:=Mg (fl g) tot out.toList (ta a na) (ta b nb)/\0<na/\1<nb/\na≤a.size/\nb≤b.size/\N+na+nb≤a.size+b.size
noncomputable def PhO(g:Keyed->Keyed->Bool)(tot:List Keyed)(a b:Array Keyed)(N:Nat)(r:Option (Array Keyed))(out:Array Keyed)(na nb:Nat):Prop:=(r=none/\Ph g tot a b N out na nb)\/∃x,r=some x/\Srt g tot x.toList
noncomputable abbrev MhS:=Option (Array Keyed)×Nat×Nat×Array Keyed×Nat×Nat×Nat
noncomputable def hiP(g:Keyed->Keyed->Bool)(tot:List Keyed)(a b:Array Keyed)(N:Nat)(st:aa2):ForInStep MhS->aa2->Prop
 | .done c,st'=>∃m r out ia ib n x y,st'=setG st m/\c=(r,ia,ib,out,n,x,y)/\PhO g tot a b N r out ia ib
 | .yield c,st'=>∃m out ia ib n x y,st'=setG st m/\c=(none,ia,ib,out,n,x,y)/\Ph g tot a b N out ia ib
noncomputable def hi2(a b out:Array Keyed)(na nb n x y:Nat):StateT aa2 Sem (ForInStep MhS):=do
 let v <- elem' a (na-1)
 if (na-1==0)=true then pure (.done (some (a.extract 0 (na-1)++b.extract 0 nb++(out.push v).reverse),na-1,nb,out.push v,n,x,y))
 else if (decide (x<7)&&decide (y<7))=true then pure (.done (none,na-1,nb,out.push v,n,x,y))
 else pure (.yield (none,na-1,nb,out.push v,n,x,y))
omit O T in
theorem zK{out:Array Keyed}{x m:Nat}(M:Mg (fl g) tot out.toList (ta a (na+1)) (ta b nb))(e:na<a.size)(q:1<nb)(c:nb≤b.size)(h:N+na+nb≤a.size+b.size)(l:∀z∈ta b nb,g z (pK a na)=true):wpS (model prog w) A E s (hi2 a b out (na+1) nb n x y) (hiP g tot a b N st) (setG st m):=by
 have d:=M.pushH e l;refine dA e (bM (λz=>?_) λz=>?_)
 .exact aaf ⟨_,_,_,_,_,_,_,_,rfl,rfl,.inr ⟨_,rfl,d.doneH (.inl (abA z))⟩⟩
 have c:0<na:=by simp only[beq_iff_eq]at z;omega
 exact bM (λ_=>aaf ⟨_,_,_,_,_,_,_,_,rfl,rfl,.inl ⟨rfl,d,c,q,by omega,by omega,by omega⟩⟩) λ_=>aaf ⟨_,_,_,_,_,_,_,rfl,rfl,d,c,q,by omega,by omega,by omega⟩
noncomputable def hi1(a b out:Array Keyed)(na nb n x y:Nat):StateT aa2 Sem (ForInStep MhS):=do
 let v <- elem' b (nb-1)
 if (nb-1==1)=true then pure (.done (some (b.extract 0 (nb-1)++a.extract 0 na++(out.push v).reverse),na,nb-1,out.push v,n,x,y))
 else do
  let u <- elem' a (na-1)
  let some k <- gal true u b 0 (nb-1) (nb-1-1)|return .done (some (a.extract 0 na++b.extract 0 (nb-1)++(out.push v).reverse),na,nb-1,out.push v,n,x,y)
  if nb-1-k>0 then
   if (k==1)=true then pure (.done (some (b.extract 0 k++a.extract 0 na++(out.push v++(b.extract k (nb-1)).reverse).reverse),na,k,out.push v++(b.extract k (nb-1)).reverse,n,x,nb-1-k))
   else if (k==0)=true then pure (.done (some (a.extract 0 na++b.extract 0 k++(out.push v++(b.extract k (nb-1)).reverse).reverse),na,k,out.push v++(b.extract k (nb-1)).reverse,n,x,nb-1-k))
   else hi2 a b (out.push v++(b.extract k (nb-1)).reverse) na k n x (nb-1-k)
  else hi2 a b (out.push v) na (nb-1) n x (nb-1-k)
theorem yB{out:Array Keyed}{x m:Nat}(v:kindOf st=o)(M:Mg (fl g) tot out.toList (ta a (na+1)) (ta b (nb+1)))(d:na<a.size)(f:nb<b.size)(C:0<nb)(H:N+na+nb≤a.size+b.size)(l:∀z∈ta a (na+1),g z (pK b nb)=true)
  (L:∀{na},na≤a.size->∀x∈ta a na,∀y∈ta b 1,g y x=true):wpS (model prog w) A E s (hi1 a b out (na+1) (nb+1) n x y) (hiP g tot a b N st) (setG st m):=by
 have h:=(M.sym.pushH f l).sym;refine dA f (bM (λz=>?_) λz=>?_)
 .have e:nb=1:=abA z;subst e;exact aaf ⟨_,_,_,_,_,_,_,_,rfl,rfl,.inr ⟨_,rfl,h.doneF (L d)⟩⟩
 have q:1<nb:=by simp only[beq_iff_eq]at z;omega
 refine dA d (wQ O T.sym v d C (aaN f) λk F D u=>bM (λc=>?_) λc=>?_)
 .have M3:=(h.sym.extH F (aaN f) D).sym;refine bM (λz=>?_) λz=>bM (λt=>?_) λt=>?_
  .have e:k=1:=abA z;subst e;exact aaf ⟨_,_,_,_,_,_,_,_,rfl,rfl,.inr ⟨_,rfl,M3.doneF (L d)⟩⟩
  .exact aaf ⟨_,_,_,_,_,_,_,_,rfl,rfl,.inr ⟨_,rfl,M3.doneH (.inr (abA t))⟩⟩
  exact zK M3 d (by simp only[beq_iff_eq]at z t;omega) (by omega) (by omega) u
 .have e:k=nb:=by show k=nb;have G:¬nb-k>0:=c;omega
  subst e;exact zK h d q (by omega) (by omega) u
noncomputable def hiI(a b out:Array Keyed)(na nb n x y:Nat):StateT aa2 Sem (ForInStep (Option (Array Keyed)×Nat×Nat×Array Keyed×Nat×Nat)):=do
 let u <- elem' b (nb-1)
 let v <- elem' a (na-1)
 let some z <- lt' u v|return .done (some (a.extract 0 na++b.extract 0 nb++out.reverse),na,nb,out,x,y)
 if z=true then do
  let v <- elem' a (na-1)
  if (na-1==0)=true then pure (.done (some (a.extract 0 (na-1)++b.extract 0 nb++(out.push v).reverse),na-1,nb,out.push v,x+1,0))
  else if x+1≥n then pure (.done (none,na-1,nb,out.push v,x+1,0))
  else pure (.yield (none,na-1,nb,out.push v,x+1,0))
 else do
  let v <- elem' b (nb-1)
  if (nb-1==1)=true then pure (.done (some (b.extract 0 (nb-1)++a.extract 0 na++(out.push v).reverse),na,nb-1,out.push v,0,y+1))
  else if y+1≥n then pure (.done (none,na,nb-1,out.push v,0,y+1))
  else pure (.yield (none,na,nb-1,out.push v,0,y+1))
noncomputable def HiJ(g:Keyed->Keyed->Bool)(tot:List Keyed)(a b:Array Keyed)(N:Nat)(st:aa2)(r:Option (Array Keyed))(out:Array Keyed)(na nb:Nat)(st':aa2):Prop:=r=none/\(∃m,st'=setG st m)/\Ph g tot a b N out na nb
noncomputable def HiK(g:Keyed->Keyed->Bool)(tot:List Keyed)(a b:Array Keyed)(N:Nat)(st:aa2)(r:Option (Array Keyed))(out:Array Keyed)(na nb:Nat)(st':aa2):Prop:=(∃m,st'=setG st m)/\PhO g tot a b N r out na nb
theorem OY{out:Array Keyed}{x:Nat}(u:kindOf st=o)(J:HiJ g tot a b (N+j) st r out ia ib st')(L:∀{na},na≤a.size->∀x∈ta a na,∀y∈ta b 1,g y x=true) :
  wpS (model prog w) A E s (hiI a b out ia ib n x y) (λr st'=>∃c,(r = .done c/\HiK g tot a b (N+1) st c.fst c.snd.snd.snd.fst c.snd.fst c.snd.snd.fst st')\/(r = .yield c/\HiJ g tot a b (N+(j+1)) st c.fst c.snd.snd.snd.fst c.snd.fst c.snd.snd.fst st')) st':=by
 let⟨_,⟨m,rfl⟩,M,t,k,d,f,v⟩:=J;let⟨na,rfl⟩:∃n,ia=n+1:=⟨ia-1,by omega⟩;let⟨nb,rfl⟩:∃n,ib=n+1:=⟨ib-1,by omega⟩;refine dA (i:=nb) f (dA (i:=na) d (O5 O u (T.mb _ f) (T.ma _ d) ?_))
 cases e:g (pK b nb) (pK a na)with
 |true=>
  have h:=M.pushH d (T.allH O d f e);refine dA (i:=na) d (bM (λz=>aaf ⟨_,.inl ⟨rfl,⟨_,rfl⟩,.inr ⟨_,rfl,h.doneH (.inl (abA z))⟩⟩⟩) λz=>?_);have q:0<na:=by simp only[beq_iff_eq]at z;omega
  exact bM (λ_=>aaf ⟨_,.inl ⟨rfl,⟨_,rfl⟩,.inl ⟨rfl,h,q,k,aaN d,f,show N+1+na+(nb+1)≤_ by omega⟩⟩⟩) λ_=>aaf ⟨_,.inr ⟨rfl,rfl,⟨_,rfl⟩,h,q,k,aaN d,f,show N+(j+1)+na+(nb+1)≤_ by omega⟩⟩
 |false=>
  have h:=(M.sym.pushH f (T.sym.allH O f d (O.no (T.mb _ f) (T.ma _ d) (abf (T.dj _ _ d f)) e))).sym;refine dA (i:=nb) f (bM (λz=>?_) λz=>?_)
  .have e:nb=1:=abA z;subst e;exact aaf ⟨_,.inl ⟨rfl,⟨_,rfl⟩,.inr ⟨_,rfl,h.doneF (L d)⟩⟩⟩
  have q:1<nb:=by simp only[beq_iff_eq]at z;omega
  exact bM (λ_=>aaf ⟨_,.inl ⟨rfl,⟨_,rfl⟩,.inl ⟨rfl,h,t,q,d,aaN f,show N+1+(na+1)+nb≤_ by omega⟩⟩⟩) λ_=>aaf ⟨_,.inr ⟨rfl,rfl,⟨_,rfl⟩,h,t,q,d,aaN f,show N+(j+1)+(na+1)+nb≤_ by omega⟩⟩
noncomputable def hi0(a b out:Array Keyed)(na nb n x y:Nat):StateT aa2 Sem (ForInStep MhS):=do
 sMG n
 let u <- elem' b (nb-1)
 let some k <- gal false u a 0 na (na-1)|return .done (some (a.extract 0 na++b.extract 0 nb++out.reverse),na,nb,out,n,x,y)
 if na-k>0 then
  if (k==0)=true then pure (.done (some (a.extract 0 k++b.extract 0 nb++(out++(a.extract k na).reverse).reverse),k,nb,out++(a.extract k na).reverse,n,na-k,y))
  else hi1 a b (out++(a.extract k na).reverse) k nb n (na-k) y
 else hi1 a b out na nb n (na-k) y
theorem AF{out:Array Keyed}{x m:Nat}(h:kindOf st=o)(P:Ph g tot a b N out ia ib)(L:∀{na},na≤a.size->∀x∈ta a na,∀y∈ta b 1,g y x=true):wpS (model prog w) A E s (hi0 a b out ia ib n x y) (hiP g tot a b N st) (setG st m):=by
 let⟨M,t,D,q,d,C⟩:=P;let⟨na,rfl⟩:∃n,ia=n+1:=⟨ia-1,by omega⟩;let⟨nb,rfl⟩:∃n,ib=n+1:=⟨ib-1,by omega⟩;refine vi (dA (i:=nb) d (wQ O T h d t q λk u v f=>bM (λc=>?_) λc=>?_))
 .have M1:=M.extH u q v;refine bM (λz=>aaf ⟨_,_,_,_,_,_,_,_,rfl,rfl,.inr ⟨_,rfl,M1.doneH (.inl (abA z))⟩⟩) λz=>?_;let⟨F,rfl⟩:∃n,k=n+1:=⟨k-1,by simp only[beq_iff_eq]at z;omega⟩;exact yB O T h M1 (by omega) d (by omega) (by omega) f L
 .have e:k=na+1:=by omega
  subst e;exact yB O T h M (by omega) d (by omega) (by omega) f L
theorem MF{out:Array Keyed}{n' x:Nat}{d:Prop}[Decidable d](e:kindOf st=o)(J:HiJ g tot a b N st r out ia ib st')(L:∀{na},na≤a.size->∀x∈ta a na,∀y∈ta b 1,g y x=true) :
  wpS (model prog w) A E s (if d then hi0 a b out ia ib n x y else hi0 a b out ia ib n' x y) (λr st'=>∃c,(r = .done c/\HiK g tot a b N st c.fst c.snd.snd.snd.fst c.snd.fst c.snd.snd.fst st')\/(r = .yield c/\HiJ g tot a b N st c.fst c.snd.snd.snd.fst c.snd.fst c.snd.snd.fst st')) st':=by
 let⟨_,⟨m,rfl⟩,P⟩:=J;refine abF (bM (λ_=>AF O T e P L) λ_=>AF O T e P L) λr st' h=>?_
 cases r with
 |done c=>let⟨m,r,out,ia,ib,n,x,y,rfl,rfl,P⟩:=h;exact⟨_,.inl ⟨rfl,⟨m,rfl⟩,P⟩⟩
 |yield c=>let⟨m,out,ia,ib,n,x,y,rfl,rfl,P⟩:=h;exact⟨_,.inr ⟨rfl,rfl,⟨m,rfl⟩,P⟩⟩
theorem M6{Q:Array Keyed->aa2->Prop}(D:kindOf st=o)(M:Mg g tot [] a.toList b.toList)(ha:0<a.size)(hb:0<b.size)(first:g (pK b 0) (pK a 0)=true)(d:∀j,j<b.size->g (pK b j) (pK a (a.size-1))=true)
  (h:∀r m,Srt g tot r.toList->Q r (setG st m)):wpS (model prog w) A E s (mHi a b) Q st:=by
 have L:∀{na},na≤a.size->∀x∈ta a na,∀y∈ta b 1,g y x=true:=λe x f y C=>by
  let⟨i,K,rfl⟩:=(rg e).mp f;let⟨j,G,rfl⟩:=(rg hb).mp C;rw[show j=0 by omega];exact T.sym.all O hb ha first _ (mem_dropK.mpr ⟨i,by omega,by omega,rfl⟩)
 let⟨k,v⟩:∃n,a.size=n+1:=⟨a.size-1,by omega⟩;have F:∀c:Array Keyed,ta c c.size=c.toList.reverse:=λc=>by simp[ta,aek]
 have H:Mg (fl g) tot (#[]:Array Keyed).toList (ta a (k+1)) (ta b b.size):=by
  rw[<-v,F,F];exact⟨((afN _).append (afN _)).trans M.pm,ahB,aeB.mpr M.sa,aeB.mpr M.sb,λx f=>(by cases f),λx f=>(by cases f)⟩
 have t:=H.pushH (by omega) λy C=>by
  let⟨j,G,rfl⟩:=(rg (Ad _)).mp C;have:=d j G;rwa[v]at this
 apply aas;refine agb (abH ⟨rfl,?_⟩);dsimp only;rw[v];refine dA (i:=k+1-1) (by omega) ?_;refine bM (λz=>?_) λz=>bM (λu=>?_) λu=>?_
 .exact aaf (h _ (agW st) (t.doneH (.inl (abA z))))
 .have e:b.size=1:=abA u;rw[e]at t⊢;exact aaf (h _ (agW st) (t.doneF (L (by omega))))
 simp only[beq_iff_eq]at z u;refine aas (afk (aas (abF (abo (I:=λi c st'=>HiJ g tot a b (i+1) st c.fst c.snd.snd.snd.fst c.snd.fst c.snd.snd.fst st') (Q:=λc st'=>(∃m,st'=setG st m)/\∃r,c.fst=some r/\Srt g tot r.toList) (λi c st' _ _ J=>?_) (λc st' J=>by have:=J.2.2.2;omega) ⟨rfl,⟨agW st,rfl⟩,t,show 0<k by omega,show 1<b.size by omega,show k≤a.size by omega,Ad _,show 0+1+k+b.size≤_ by omega⟩) λc st' J=>?_)))
 rotate_left
 .obtain⟨⟨m,rfl⟩,r,e,R⟩:=J;rw[e];exact aaf (h _ _ R)
 refine aas (abF (abo (I:=λj c st'=>HiJ g tot a b (i+1+j) st c.fst c.snd.snd.snd.fst c.snd.fst c.snd.snd.fst st') (Q:=λc st'=>HiK g tot a b (i+1+1) st c.fst c.snd.snd.snd.fst c.snd.fst c.snd.snd.fst st') (λj c st' _ _ J=>abF (OY O T D J L) λr st' h=>by obtain⟨c,⟨rfl,h⟩|⟨rfl,h⟩⟩:=h<;>exact h) (λc st' J=>⟨J.2.1,.inl ⟨J.1,J.2.2.1,J.2.2.2.1,J.2.2.2.2.1,J.2.2.2.2.2.1,J.2.2.2.2.2.2.1,by have:=J.2.2.2;omega⟩⟩) ⟨rfl,J.2⟩) λc st' J=>J.2.elim (λq=>?_) λq=>?_)
 rotate_left
 .obtain⟨r,e,R⟩:=q;rw[e];exact aaf ⟨J.1,_,rfl,R⟩
 rw[q.1];apply aas;refine agb (abH ⟨rfl,?_⟩);refine aas (abF (abo (I:=λ_ c st'=>HiJ g tot a b (i+1+1) st c.fst c.snd.snd.snd.fst c.snd.fst c.snd.snd.fst st') (Q:=λc st'=>HiK g tot a b (i+1+1) st c.fst c.snd.snd.snd.fst c.snd.fst c.snd.snd.fst st') (λj c st' _ _ J=>abF (MF O T D J L) λr st' h=>by obtain⟨c,⟨rfl,h⟩|⟨rfl,h⟩⟩:=h<;>exact h) (λc st' J=>⟨J.2.1,.inl ⟨J.1,J.2.2⟩⟩) ⟨rfl,J.1,q.2⟩) λc st' J=>J.2.elim (λq=>?_) λq=>?_)
 rotate_left
 .obtain⟨r,e,R⟩:=q;rw[e];exact aaf ⟨J.1,_,rfl,R⟩
 rw[q.1];let⟨⟨m,rfl⟩,_⟩:=J;exact vi (aaf ⟨rfl,⟨_,rfl⟩,q.2⟩)
end
noncomputable def AscR(g:Keyed->Keyed->Bool)(a:Array Keyed)(lo hi:Nat):Prop:=∀i j,lo≤i->i<j->j<hi->g (pK a i) (pK a j)=true
structure Oth(lo hi:Nat)(a b:Array Keyed):Prop where
 pm:b.toList.Perm a.toList
 ou:∀i,i<lo\/hi≤i->pK b i=pK a i
def Oth.sz(h:Oth lo hi a b):b.size=a.size:=by simpa using h.pm.length_eq
def Oth.rfl':Oth lo hi a a:=⟨.refl _,λ_ _=>rfl⟩
theorem Oth.trans{c:Array Keyed}(h:Oth lo hi a b)(k:Oth lo hi b c):Oth lo hi a c:=⟨k.pm.trans h.pm,λi hi=>(k.ou i hi).trans (h.ou i hi)⟩
theorem Oth.asc{l h:Nat}(o:Oth lo hi a b)(d:h≤lo\/hi≤l)(k:AscR g a l h):AscR g b l h:=λi j e c f=>by
 rw[o.ou i (by omega),o.ou j (by omega)];exact k i j e c f
noncomputable def wr(sa:Nat)(l:List (Keyed×Nat))(a:Array Keyed):Array Keyed:=l.foldl (λa x=>a.setIfInBounds (sa+x.2) x.1) a
theorem xv(sa:Nat):∀(l:List Keyed) (k:Nat) (a:Array Keyed),sa+k+l.length≤a.size->(wr sa (l.zipIdx k) a).toList=a.toList.take (sa+k)++l++a.toList.drop (sa+k+l.length)
 |[],k,a,h=>by simp[wr]
 |x::l,k,a,h=>by
  have c:sa+k+(l.length+1)≤a.size:=h;have e:=xv sa l (k+1) (a.setIfInBounds (sa+k) x) (by simp;omega);show(wr sa (l.zipIdx (k+1)) (a.setIfInBounds (sa+k) x)).toList=_;rw[e,afD,List.drop_set_of_lt (by omega),<-ac5,abX,List.take_set_of_le (Ad _),aaI (by simp;omega),aaG];simp[Nat.add_comm,Nat.add_left_comm]
def oJ:pK a i=a.toList.getD i (.none,.none):=by simp[pK]
def zN(h:lo+i<hi)(f:hi≤a.size):pK (a.extract lo hi) i=pK a (lo+i):=by
 have d:i<(a.extract lo hi).size:=by simp;omega
 have c:lo+i<a.size:=by omega
 have e:=fV d;rw[abu d,Array.getElem_extract,<-abu c]at e;exact(aal (e.symm.trans (fV c)))
theorem J9{r:Array Keyed}(f:lo≤hi)(c:hi≤a.size)(p:r.toList.Perm (a.extract lo hi).toList):Oth lo hi a (wr lo r.toList.zipIdx a)/\∀i,lo+i<hi->pK (wr lo r.toList.zipIdx a) (lo+i)=pK r i:=by
 have n:r.toList.length=hi-lo:=by rw[p.length_eq];simp;omega
 have e:=xv lo r.toList 0 a (by omega);rw[Nat.add_zero,n,show lo+(hi-lo)=hi by omega]at e;refine⟨⟨?_,λi h=>?_⟩,λi h=>?_⟩
 .rw[e];have d:a.toList=a.toList.take lo++(a.extract lo hi).toList++a.toList.drop hi:=by
   rw[agX];show _=_++ag3 (hi-lo) (List.drop lo _)++_;rw[show a.toList.drop hi=(a.toList.drop lo).drop (hi-lo) by rw[List.drop_drop,show lo+(hi-lo)=hi by omega],abg,adv,adv]
  conv=>rhs;rw[d]
  exact(p.append_left _).append_right _
 .rw[oJ,e,oJ,Mt,Mt,abg];have t:(a.toList.take lo).length=lo:=by simp;omega
  rcases h with z|z
  .rw[aaz (by omega),afP z]
  .rw[aay (by omega),aay (by omega),List.getElem?_drop,t,n,show hi+(i-lo-(hi-lo))=i by omega]
 .rw[oJ,e,oJ,Mt,Mt,abg];have t:(a.toList.take lo).length=lo:=by simp;omega
  rw[aay (by omega),aaz (by omega),t,show lo+i-lo=i by omega]
noncomputable def Ch(g:Keyed->Keyed->Bool)(a:Array Keyed):Nat->List (Nat×Nat×Nat)->Nat->Prop
 |lo,[],hi=>lo=hi
 |lo,p::rs,hi=>p.1=lo/\0<p.2.1/\AscR g a lo (lo+p.2.1)/\Ch g a (lo+p.2.1) rs hi
section
variable {g:Keyed->Keyed->Bool}{a b:Array Keyed}
theorem Ch.le:∀{l:List (Nat×Nat×Nat)}{lo hi:Nat},Ch g a lo l hi->lo+l.length≤hi
 |[],lo,hi,h=>by rw[show lo=hi from h];exact Ad _
 |p::l,lo,hi,h=>by have:=Ch.le h.2.2.2;have:=h.2.1;rw[aaG];omega
theorem Ch.app:∀{l k:List (Nat×Nat×Nat)}{lo hi:Nat},Ch g a lo (l++k) hi->∃m,Ch g a lo l m/\Ch g a m k hi
 |[],k,lo,hi,h=>⟨lo,rfl,h⟩
 |p::l,k,lo,hi,h=>by
  let⟨m,d,c⟩:=Ch.app h.2.2.2;exact⟨m,⟨h.1,h.2.1,h.2.2.1,d⟩,c⟩
theorem Ch.cat:∀{l k:List (Nat×Nat×Nat)}{lo m hi:Nat},Ch g a lo l m->Ch g a m k hi->Ch g a lo (l++k) hi
 |[],k,lo,m,hi,h,h2=>by rw[show lo=m from h];exact h2
 |p::l,k,lo,m,hi,h,h2=>⟨h.1,h.2.1,h.2.2.1,Ch.cat h.2.2.2 h2⟩
theorem Ch.oth{x y:Nat}(o:Oth x y a b):∀{l:List (Nat×Nat×Nat)}{lo hi:Nat},hi≤x\/y≤lo->Ch g a lo l hi->Ch g b lo l hi
 |[],lo,hi,_,h=>h
 |p::l,lo,hi,d,h=>by
  have:=Ch.le h.2.2.2;exact⟨h.1,h.2.1,o.asc (by omega) h.2.2.1,Ch.oth o (by omega) h.2.2.2⟩
end
def Dh{M:Model}{A:aa6}{E:lD->mT->Prop}{s:mT}{c:Type}{x:c}{Q:PUnit->c->Prop}{st:c}(h:Q ⟨⟩ x):wpS M A E s (set x:StateT c Sem PUnit) Q st:=by
 unfold wpS;rw[StateT.run_set];exact Dl ⟨rfl,h⟩
structure SI(κ:ae2)(it:List Keyed)(st:aa2):Prop where
 pm:(arrOf st).toList.Perm it
 kd:kindOf st=κ
 fl:afC st=none
section
variable {prog:aaD}{w:World}{A:aa6}{E:lD->mT->Prop}{s:mT}{β:Type}{st:aa2}
variable {b:ae2}{g:Keyed->Keyed->Bool}{a:List Keyed} (O:Orc prog w A s b g a) (nd:a.Nodup)
theorem SI.mem(S:SI b a st)(h:i<(arrOf st).size):pK (arrOf st) i∈a:=by
 refine S.pm.mem_iff.mp ?_;have:=agF (fV h);exact agY.mpr this
include nd in
theorem SI.ne(S:SI b a st)(hi:i<(arrOf st).size)(d:j<(arrOf st).size)(h:i≠j):pK (arrOf st) i≠pK (arrOf st) j:=λz=>by
 have n2:=S.pm.nodup_iff.mpr nd;have e:(arrOf st).toList[i]?=some (pK (arrOf st) i):=by rw[abT];exact fV hi
 have c:(arrOf st).toList[j]?=some (pK (arrOf st) j):=by rw[abT];exact fV d
 rw[z,<-c]at e;exact h ((ahK (by simpa using hi) n2).mp e)
include O nd
theorem zw{Q:Bool->aa2->Prop}(S:SI b a st)(hc:Ch g (arrOf st) 0 (aaZ st).toList hi)(hh:hi≤(arrOf st).size)(P:i+1<(aaZ st).size)
  (h:∀st',SI b a st'->Oth 0 hi (arrOf st) (arrOf st')->Ch g (arrOf st') 0 (aaZ st').toList hi->(aaZ st').size+1=(aaZ st).size->Q true st'):wpS (model prog w) A E s (mergeAt' i) Q st:=by
 have hl:i+1<(aaZ st).toList.length:=by simpa using P
 let⟨W,p,q,l2,e,el⟩:∃W p q l2,(aaZ st).toList=W++p::q::l2/\W.length=i:=
  ⟨(aaZ st).toList.take i,_,_,(aaZ st).toList.drop (i+2),by rw[<-adM (i:=i+1) hl,<-adM (i:=i) (by omega),adv],by rw[aaB];omega⟩
 let⟨sa,na,pw⟩:=p;let⟨sb,nb,pw2⟩:=q;rw[e]at hc;let⟨m,Y,rfl,n1,A1,rfl,n2,L,V⟩:=hc.app;have le:=V.le;dsimp only at n1 A1 n2 L V le;apply aas;refine afk ?_;have g1:(aaZ st)[i]?=some (sa,na,pw):=by rw[<-abT,e,<-el];simp
 have g2:(aaZ st)[i+1]?=some (sa+na,nb,pw2):=by rw[<-abT,e,<-el];simp
 have ep:(((aaZ st).setIfInBounds i (sa,na+nb,pw)).eraseIdxIfInBounds (i+1)).toList=W++(sa,na+nb,pw)::l2:=by
  rw[Array.toList_eraseIdxIfInBounds,afD,e,<-el,List.set_append_right _ _ (Ad _),Nat.sub_self,List.eraseIdx_append_of_length_le (by omega),show W.length+1-W.length=1 by omega];rfl
 have fin:∀f m,Oth sa (sa+na+nb) (arrOf st) f->AscR g f sa (sa+na+nb)->Q true (afB (kindOf st) f (((aaZ st).setIfInBounds i (sa,na+nb,pw)).eraseIdxIfInBounds (i+1)) m (afC st)):=λf m o as=>by
  refine h _ ⟨o.pm.trans S.pm,S.kd,S.fl⟩ ⟨o.pm,λi hi=>o.ou i (by omega)⟩ ?_ ?_
  .show Ch g f 0 (agf _) hi;rw[ep];exact Ch.cat (Y.oth o (.inl (Ad _))) ⟨rfl,Nat.add_pos_left n1 _,by rw[<-ac5];exact as,by rw[<-ac5];exact V.oth o (.inr (Ad _))⟩
  .show Array.size _+1=_;rw[<-abO,ep,<-abO,e,aaj,aaj];rfl
 have D:∀u,u<sa+na+nb->pK (arrOf st) u∈a:=λu hu=>S.mem (by omega);have B0:∀u v,u<sa+na+nb->sa+na≤v->v<sa+na+nb->g (pK (arrOf st) u) (pK (arrOf st) (sa+na))=true->g (pK (arrOf st) u) (pK (arrOf st) v)=true:=λu v hu F G C=>by
  rcases aeb F with z|z
  .exact O.tr _ (D u hu) _ (D _ (by omega)) _ (D v G) C (L _ _ (Ad _) z G)
  .rw[<-z];exact C
 rw[g1,g2];dsimp only;apply aas;refine Dh ?_;refine dA (arr:=arrOf st) (i:=sa+na) (by omega) ?_;refine nr (arr:=arrOf st) (base:=sa) O S.kd (D _ (by omega)) n1 (λi hi=>⟨by omega,D _ (by omega),S.ne nd (by omega) (by omega) (by omega)⟩) (λi j I J=>A1 _ _ (by omega) (by omega) (by omega)) λk k1 k2 k3=>?_;have F1:∀u v,sa≤u->u<sa+k->u<v->v<sa+na+nb->g (pK (arrOf st) u) (pK (arrOf st) v)=true:=λu v F G C U=>by
  by_cases z:v<sa+na
  .exact A1 u v F C z
  .refine B0 u v (by omega) (by omega) U ?_;have:=k2 (u-sa) (by omega);rwa[show sa+(u-sa)=u by omega]at this
 refine bM (λz=>?_) λz=>?_
 .have z':na-k=0:=abA z;refine aaf (fin _ _ .rfl' λu v F G C=>?_)
  by_cases y:u<sa+na
  .exact F1 u v F (by omega) G C
  .exact L u v (by omega) G C
 simp only[beq_iff_eq]at z;have LA:∀u v,sa≤u->u<sa+na->v<sa+na+nb->g (pK (arrOf st) (sa+na-1)) (pK (arrOf st) v)=true->g (pK (arrOf st) u) (pK (arrOf st) v)=true:=λu v F G C U=>by
  by_cases z:u=sa+na-1
  .rw[z];exact U
  .exact O.tr _ (D u (by omega)) _ (D _ (by omega)) _ (D v C) (A1 u _ F (by omega) (by omega)) U
 rw[show sa+k+(na-k)-1=sa+na-1 by omega];refine dA (arr:=arrOf st) (i:=sa+na-1) (by omega) ?_;refine nr (arr:=arrOf st) (base:=sa+na) O S.kd (D _ (by omega)) (by omega) (λi hi=>⟨by omega,D _ (by omega),S.ne nd (by omega) (by omega) (by omega)⟩) (λi j I J=>L _ _ (by omega) (by omega) (by omega)) λd m1 m2 m3=>?_;have f0:g (pK (arrOf st) (sa+na)) (pK (arrOf st) (sa+k))=true:=k3 k (Ad _) (by omega);refine bM (λz=>?_) λz2=>?_
 .have z':d=0:=abA z;have f1:=m3 0 (by omega) n2;have f2:=LA (sa+k) (sa+na) (by omega) (by omega) (by omega) f1;rw[O.as (D _ (by omega)) (D _ (by omega)) f0]at f2;cases f2
 simp only[beq_iff_eq]at z2;have F2:∀u v,sa≤u->u<sa+na+d->sa+na+d≤v->v<sa+na+nb->g (pK (arrOf st) u) (pK (arrOf st) v)=true:=λu v F G C U=>by
  by_cases z:u<sa+na
  .refine LA u v F z U ?_;have:=m3 (v-(sa+na)) (by omega) (by omega);rwa[show sa+na+(v-(sa+na))=v by omega]at this
  .exact L u v (by omega) (by omega) U
 have xs:((arrOf st).extract (sa+k) (sa+na)).size=na-k:=by simp;omega
 have ys:((arrOf st).extract (sa+na) (sa+na+d)).size=d:=by simp;omega
 have xe:∀i,i<na-k->pK ((arrOf st).extract (sa+k) (sa+na)) i=pK (arrOf st) (sa+k+i):=λi hi=>zN (by omega) (by omega);have X:∀i,i<d->pK ((arrOf st).extract (sa+na) (sa+na+d)) i=pK (arrOf st) (sa+na+i):=λi hi=>zN (by omega) (by omega);have T:Two g a ((arrOf st).extract (sa+k) (sa+na)) ((arrOf st).extract (sa+na) (sa+na+d)):=by
  refine⟨λi hi=>?_,λi hi=>?_,λi j I J=>?_,λi j I J=>?_,λi j hi J=>?_⟩
  .rw[xe i (by omega)];exact D _ (by omega)
  .rw[X i (by omega)];exact D _ (by omega)
  .rw[xe i (by omega),xe j (by omega)];exact A1 _ _ (by omega) (by omega) (by omega)
  .rw[X i (by omega),X j (by omega)];exact L _ _ (by omega) (by omega) (by omega)
  .rw[xe i (by omega),X j (by omega)];exact S.ne nd (by omega) (by omega) (by omega)
 have pw':∀{c:Array Keyed},(∀i j,i<j->j<c.size->g (pK c i) (pK c j)=true)->c.toList.Pairwise (g · · = true):=λ{c} hs=>aaU.mpr λi j hi J I=>by
  have:=hs i j I (by simpa using J);have P:i<c.size:=by simpa using hi
  have hj':j<c.size:=by simpa using J
  simpa[P,hj']using this
 have M:Mg g (((arrOf st).extract (sa+k) (sa+na)).toList++((arrOf st).extract (sa+na) (sa+na+d)).toList) [] ((arrOf st).extract (sa+k) (sa+na)).toList ((arrOf st).extract (sa+na) (sa+na+d)).toList:=
  ⟨.refl _,.nil,pw' T.sa,pw' T.sb,λx hx=>(by cases hx),λx hx=>(by cases hx)⟩
 have Z:g (pK ((arrOf st).extract (sa+na) (sa+na+d)) 0) (pK ((arrOf st).extract (sa+k) (sa+na)) 0)=true:=by
  rw[xe 0 (by omega),X 0 (by omega)];exact f0
 have l0:∀j,j<((arrOf st).extract (sa+na) (sa+na+d)).size->g (pK ((arrOf st).extract (sa+na) (sa+na+d)) j) (pK ((arrOf st).extract (sa+k) (sa+na)) (((arrOf st).extract (sa+k) (sa+na)).size-1))=true:=λj J=>by
  rw[xe _ (by omega),X j (by omega),xs,show sa+k+(na-k-1)=sa+na-1 by omega];exact m2 j (by omega)
 have ex:((arrOf st).extract (sa+k) (sa+na)).toList++((arrOf st).extract (sa+na) (sa+na+d)).toList=((arrOf st).extract (sa+k) (sa+na+d)).toList:=by
  rw[<-acb,Array.extract_append_extract,show min (sa+k) (sa+na)=sa+k by omega,show max (sa+na) (sa+na+d)=sa+na+d by omega]
 have K:∀(r:Array Keyed) m,Srt g (((arrOf st).extract (sa+k) (sa+na)).toList++((arrOf st).extract (sa+na) (sa+na+d)).toList) r.toList->Q true (afB (kindOf st) (wr (sa+k) r.toList.zipIdx (arrOf st)) (((aaZ st).setIfInBounds i (sa,na+nb,pw)).eraseIdxIfInBounds (i+1)) m (afC st)):=λr m R=>by
  rw[ex]at R;let⟨o,H⟩:=J9 (lo:=sa+k) (hi:=sa+na+d) (by omega) (by omega) R.pm;have rs:r.size=na+d-k:=by have:=R.pm.length_eq;simp at this;omega
  refine fin _ _ ⟨o.pm,λi hi=>o.ou i (by omega)⟩ λu v F G C=>?_;have src:∀t,sa+k≤t->t<sa+na+d->∃t',sa+k≤t'/\t'<sa+na+d/\pK (wr (sa+k) r.toList.zipIdx (arrOf st)) t=pK (arrOf st) t':=λt t1 t2=>by
   have e:=H (t-(sa+k)) (by omega);rw[show sa+k+(t-(sa+k))=t by omega]at e;have hm:pK r (t-(sa+k))∈((arrOf st).extract (sa+k) (sa+na+d)).toList.drop 0:=by
    rw[afs];refine R.pm.mem_iff.mp (agY.mpr (agF (fV ?_)));omega
   let⟨j,_,j2,j3⟩:=mem_dropK.mp hm;have j2':j<na+d-k:=by simp at j2;omega
   exact⟨sa+k+j,by omega,by omega,by rw[e,j3,zN (by omega) (by omega)]⟩
  by_cases Y:u<sa+k
  .rw[o.ou u (.inl Y)]
   by_cases V:v<sa+k
   .rw[o.ou v (.inl V)];exact F1 u v F Y G C
   .by_cases c3:v<sa+na+d
    .obtain⟨v',w1,w2,w3⟩:=src v (by omega) c3;rw[w3];exact F1 u v' F Y (by omega) (by omega)
    .rw[o.ou v (.inr (by omega))];exact F1 u v F Y G C
  .by_cases V:u<sa+na+d
   .by_cases c3:v<sa+na+d
    .have e1:=H (u-(sa+k)) (by omega);have e2:=H (v-(sa+k)) (by omega);rw[show sa+k+(u-(sa+k))=u by omega]at e1;rw[show sa+k+(v-(sa+k))=v by omega]at e2;rw[e1,e2];have hu':u-(sa+k)<r.size:=by omega
     have hv':v-(sa+k)<r.size:=by omega
     have:=aaU.mp R.so (u-(sa+k)) (v-(sa+k)) (by simpa using hu') (by simpa using hv') (by omega);simpa[hu',hv']using this
    .obtain⟨u',w1,w2,w3⟩:=src u (by omega) V;rw[w3,o.ou v (.inr (by omega))];exact F2 u' v (by omega) w2 (by omega) C
   .rw[o.ou u (.inr (by omega)),o.ou v (.inr (by omega))];exact L u v (by omega) G C
 have fb:(afC st).isNone=true:=by rw[S.fl];rfl
 refine bM (λ_=>aas (LW O T S.kd M (by omega) (by omega) Z l0 λr m R=>?_)) λ_=>aas (M6 O T S.kd M (by omega) (by omega) Z l0 λr m R=>?_)
 all_goals
  refine aas (aeK (aas (afk (aaf ?_))));show Q ((afC st).isNone) _;rw[fb];exact K r m R
end
def zm(h:a[i]?=b[j]?):pK a i=pK b j:=by
 show a.getD i _=b.getD j _;rw[afl,afl,h]
def Jr(h:j≤a.size):Oth i j a (mirror a i j ((j-i)/2))/\∀k,i≤k->k<j->pK (mirror a i j ((j-i)/2)) k=pK a (i+j-1-k):=
 ⟨⟨(mirror_perm a i j _).toList,λk e=>zm ((getElem?_mirror_all h k).trans (if_neg (by omega)))⟩,λk d c=>zm ((getElem?_mirror_all h k).trans (if_pos ⟨d,c⟩))⟩
def Jf{s d:Nat}(hs:s<a.size)(hd:d≤s):Oth (s-d) (s+1) a (bubble a s d)/\pK (bubble a s d) (s-d)=pK a s/\∀k,s-d<k->k≤s->pK (bubble a s d) k=pK a (k-1):=
 ⟨⟨(bubble_perm a s d).toList,λk e=>zm (((agA hs d hd k).trans (if_neg (by omega))).trans (if_neg (by omega)))⟩,zm ((agA hs d hd _).trans (if_pos rfl)),λk c h=>zm (((agA hs d hd k).trans (if_neg (by omega))).trans (if_pos ⟨c,h⟩))⟩
section
variable {prog:aaD}{w:World}{A:aa6}{E:lD->mT->Prop}{s:mT}{β:Type}{st:aa2}
variable {p:ae2}{g:Keyed->Keyed->Bool}{b:List Keyed} (O:Orc prog w A s p g b) (nd:b.Nodup)
include O
theorem v5{Q:β->aa2->Prop}{f:Option Bool->StateT aa2 Sem β}(S:SI p b st)(hi:i<(arrOf st).size)(c:j<(arrOf st).size)(h:wpS (model prog w) A E s (f (some (g (pK (arrOf st) i) (pK (arrOf st) j)))) Q st):wpS (model prog w) A E s (ltAt' i j >>= f) Q st:=by
 rw[ltAt'_eq];refine aas (aas (afk ?_));exact dA hi (dA c (ux O S.kd (S.mem hi) (S.mem c) h))
theorem SI.no(S:SI p b st)(nd:b.Nodup)(hi:i<(arrOf st).size)(c:j<(arrOf st).size)(h:i≠j)(e:g (pK (arrOf st) i) (pK (arrOf st) j)=false):g (pK (arrOf st) j) (pK (arrOf st) i)=true:=O.no (S.mem hi) (S.mem c) (S.ne nd hi c h) e
theorem Ai(S:SI p b st){k:Nat}(d:k<(arrOf st).size)(h0:lo<k)(a:AscR g (arrOf st) lo k)(e:g (pK (arrOf st) (k-1)) (pK (arrOf st) k)=true):AscR g (arrOf st) lo (k+1):=λi j h c f=>by
 by_cases z:j=k
 .subst z
  by_cases y:i=j-1
  .rw[y];exact e
  .exact O.tr _ (S.mem (by omega)) _ (S.mem (by omega)) _ (S.mem d) (a i _ h (by omega) (by omega)) e
 .exact a i j h c (by omega)
include nd
theorem Jb{q:Nat}{Q:Option Nat->aa2->Prop}(S:SI p b st)(D:1≤q)(T:lo+q≤(arrOf st).size)
  (h:∀m H,1≤m->m≤q->Oth lo (lo+q) (arrOf st) H->AscR g H lo (lo+m)->Q (some m) (adn st H)):wpS (model prog w) A E s (countRun' lo q) Q st:=by
 rw[countRun'_eq];refine aas (abF (abo (I:=λi c st'=>st'=st/\c=(none,i)/\AscR g (arrOf st) lo (lo+i)) (Q:=λc st'=>st'=st/\∃n,c=(none,n)/\1≤n/\n≤q/\AscR g (arrOf st) lo (lo+n)/\(n<q->g (pK (arrOf st) (lo+n)) (pK (arrOf st) (lo+n-1))=true)) ?_ ?_ ?_) ?_)
 .rintro i c st' hi hi2 ⟨rfl,rfl,a⟩;dsimp only;refine v5 O S (by omega) (by omega) ?_
  cases e:g (pK (arrOf st') (lo+i)) (pK (arrOf st') (lo+i-1))with
  |true=>exact aaf ⟨rfl,i,rfl,hi,by omega,a,λ_=>e⟩
  |false=>exact aaf ⟨rfl,rfl,Ai (k:=lo+i) O S (by omega) (by omega) a (S.no O nd (by omega) (by omega) (by omega) e)⟩
 .rintro c st' ⟨rfl,rfl,a⟩;exact⟨rfl,_,rfl,by omega,by omega,a,λz=>by omega⟩
 .exact⟨rfl,rfl,λi j _ _ _=>by omega⟩
 intro c st' ⟨rfl,n,rfl,n1,n2,a,z⟩;dsimp only;refine bM (λy=>aaf (h n _ n1 n2 .rfl' a)) λy=>?_;simp only[beq_iff_eq]at y;refine bM (λL=>?_) λL=>?_
 .refine v5 O S (by omega) (by omega) ?_;rw[a lo (lo+n-1) (Ad _) (by omega) (by omega)];exact aaf (h n _ n1 n2 .rfl' a)
 have e:n=1:=by omega
 subst e;apply aas;refine agb (abH ⟨rfl,?_⟩);refine aas (abF (abo (I:=λi c f=>f=st'/\c=(none,i,0)/\AscR (fl g) (arrOf st') lo (lo+i)) (Q:=λc f=>f=st'/\∃n,c=(none,n,0)/\2≤n/\n≤q/\AscR (fl g) (arrOf st') lo (lo+n)) ?_ ?_ ?_) ?_)
 .rintro i c f hi hi2 ⟨rfl,rfl,a⟩;dsimp only;refine v5 O S (by omega) (by omega) ?_
  cases e:g (pK (arrOf f) (lo+i)) (pK (arrOf f) (lo+i-1))with
  | true=>
   refine aaf ⟨rfl,rfl,λu v D F G=>?_⟩
   by_cases z:v=lo+i
   .subst z
    by_cases y:u=lo+i-1
    .rw[y];exact e
    .exact O.tr _ (S.mem (by omega)) _ (S.mem (by omega)) _ (S.mem (by omega)) e (a u (lo+i-1) D (by omega) (by omega))
   .exact a u v D F (by omega)
  |false=>
   refine v5 O S (by omega) (by omega) ?_;rw[S.no O nd (by omega) (by omega) (by omega) e];exact aaf ⟨rfl,i,rfl,hi,by omega,a⟩
 .rintro c f ⟨rfl,rfl,a⟩;exact⟨rfl,_,rfl,by omega,by omega,a⟩
 .refine⟨rfl,rfl,λu v D F G=>?_⟩;rw[show v=lo+1 by omega,show u=lo+1-1 by omega];exact z (by omega)
 intro c f ⟨rfl,n,rfl,R,n4,d⟩;dsimp only;rw[if_neg (by decide),reverseSlice'_eq];refine aas (aeK ?_);let⟨o,C⟩:=Jr (a:=arrOf f) (i:=lo) (j:=lo+n) (by omega);generalize mirror (arrOf f) lo (lo+n) ((lo+n-lo)/2)=a1 at o C;have J:SI p b (adn f a1):=⟨o.pm.trans S.pm,S.kd,S.fl⟩;have sz:(arrOf (adn f a1)).size=(arrOf f).size:=o.sz;have K:Oth lo (lo+q) (arrOf f) a1:=⟨o.pm,λi hi=>o.ou i (by omega)⟩;refine aas (abF (abo (I:=λi c t=>t=adn f a1/\c=(none,i)/\AscR g a1 lo (lo+i)) (Q:=λc t=>t=adn f a1/\∃i,c=(none,i)/\1≤i/\i≤q/\AscR g a1 lo (lo+i)) ?_ ?_ ?_) ?_)
 .rintro i c t hi hi2 ⟨rfl,rfl,a⟩;dsimp only;refine v5 O J (by omega) (by omega) ?_
  cases e:g (pK (arrOf (adn f a1)) (lo+i)) (pK (arrOf (adn f a1)) (lo+i-1))with
  |true=>exact aaf ⟨rfl,i,rfl,by omega,by omega,a⟩
  |false=>exact aaf ⟨rfl,rfl,Ai (k:=lo+i) O J (by omega) (by omega) a (J.no O nd (by omega) (by omega) (by omega) e)⟩
 .rintro c t ⟨rfl,rfl,a⟩;exact⟨rfl,_,rfl,by omega,by omega,a⟩
 .refine⟨rfl,rfl,λu v D F G=>?_⟩;rw[C u D (by omega),C v (by omega) G];exact d _ _ (by omega) (by omega) (by omega)
 intro c t ⟨rfl,i,rfl,M,P,a⟩;exact aaf (h i _ M P K a)
theorem IP{ok:Nat}{Q:Bool->aa2->Prop}(S:SI p b st)(D:1≤ok)(G:ok≤n)(U:lo+n≤(arrOf st).size)(a:AscR g (arrOf st) lo (lo+ok))
  (h:∀f,Oth lo (lo+n) (arrOf st) f->AscR g f lo (lo+n)->Q true (adn st f)):wpS (model prog w) A E s (binarySort' lo n ok) Q st:=by
 rw[binarySort'_eq];refine aas (abF (abo (I:=λk c st'=>∃f,st'=adn st f/\c=(none,())/\Oth lo (lo+n) (arrOf st) f/\AscR g f lo (lo+k)) (Q:=λc st'=>∃f,st'=adn st f/\c=(none,())/\Oth lo (lo+n) (arrOf st) f/\AscR g f lo (lo+n)) ?_ ?_ ?_) ?_)
 .rintro k c st' hk hk2 ⟨f,rfl,rfl,o,a⟩;have sz:(arrOf (adn st f)).size=(arrOf st).size:=o.sz;have L:SI p b (adn st f):=⟨o.pm.trans S.pm,S.kd,S.fl⟩;have C:∀i,i<lo+n->pK f i∈b:=λi hi=>L.mem (by omega);dsimp only;refine aas (abF (abo (I:=λi c st'=>st'=adn st f/\∃l r,c=(none,l,r)/\l≤r/\r≤k/\r-l≤k-i/\(∀j,j<l->g (pK f (lo+j)) (pK f (lo+k))=true)/\∀j,r≤j->j<k->g (pK f (lo+k)) (pK f (lo+j))=true) (Q:=λc st'=>st'=adn st f/\∃l r,c=(none,l,r)/\l≤k/\(∀j,j<l->g (pK f (lo+j)) (pK f (lo+k))=true)/\∀j,l≤j->j<k->g (pK f (lo+k)) (pK f (lo+j))=true) ?_ ?_ ?_) ?_)
  .rintro i c st' _ hi ⟨rfl,l,r,rfl,P,c2,c3,q,t⟩;dsimp only;refine bM (λz=>aaf ⟨rfl,l,r,rfl,by omega,q,λj K=>t j (by omega)⟩) λz=>?_;refine v5 O L (by omega) (by omega) ?_
   cases e:g (pK (arrOf (adn st f)) (lo+k)) (pK (arrOf (adn st f)) (lo+(l+r)/2))with
   |true=>
    refine aaf ⟨rfl,l,(l+r)/2,rfl,by omega,by omega,by omega,q,λj D G=>?_⟩
    by_cases y:j=(l+r)/2
    .rw[y];exact e
    .exact O.tr _ (C _ (by omega)) _ (C (lo+(l+r)/2) (by omega)) _ (C _ (by omega)) e (a _ _ (by omega) (by omega) (by omega))
   |false=>
    have M:=L.no O nd (by omega) (by omega) (by omega) e;refine aaf ⟨rfl,(l+r)/2+1,r,rfl,by omega,by omega,by omega,λj D=>?_,t⟩
    by_cases y:j=(l+r)/2
    .rw[y];exact M
    .exact O.tr _ (C _ (by omega)) _ (C (lo+(l+r)/2) (by omega)) _ (C _ (by omega)) (a _ _ (by omega) (by omega) (by omega)) M
  .rintro c st' ⟨rfl,l,r,rfl,P,c2,c3,q,t⟩;exact⟨rfl,l,r,rfl,by omega,q,λj K=>t j (by omega)⟩
  .exact⟨rfl,0,k,rfl,by omega,by omega,by omega,λj K=>by omega,λj K=>by omega⟩
  intro c st' ⟨rfl,l,r,rfl,P,q,t⟩;dsimp only;rw[moveDown'_eq];refine aas (aeK (aaf ?_));let⟨F,J,m⟩:=Jf (a:=f) (s:=lo+k) (d:=lo+k-(lo+l)) (by have:f.size=_:=o.sz;omega) (by omega);rw[show lo+k-(lo+k-(lo+l))=lo+l by omega]at F J m;refine⟨_,rfl,rfl,o.trans ⟨F.pm,λi hi=>F.ou i (by omega)⟩,λu v D G V=>?_⟩
  by_cases T:u<lo+l
  .rw[F.ou u (.inl T)]
   by_cases R:v<lo+l
   .rw[F.ou v (.inl R)];exact a u v D G (by omega)
   .by_cases H:v=lo+l
    .rw[H,J];have:=q (u-lo) (by omega);rwa[show lo+(u-lo)=u by omega]at this
    .rw[m v (by omega) (by omega)];exact a u _ D (by omega) (by omega)
  .rw[m v (by omega) (by omega)]
   by_cases H:u=lo+l
   .rw[H,J];have:=t (v-1-lo) (by omega) (by omega);rwa[show lo+(v-1-lo)=v-1 by omega]at this
   .rw[m u (by omega) (by omega)];exact a _ _ (by omega) (by omega) (by omega)
 .rintro c st' ⟨f,rfl,rfl,o,a⟩;exact⟨f,rfl,rfl,o,by rwa[show max (max ok 1) n=n by omega]at a⟩
 .exact⟨arrOf st,rfl,rfl,.rfl',by rwa[show max ok 1=ok by omega]⟩
 intro c st' ⟨f,rfl,rfl,o,a⟩;exact aaf (h f o a)
end
theorem Ch.mod{g:Keyed->Keyed->Bool}{a:Array Keyed}{f:Nat×Nat×Nat->Nat×Nat×Nat}(c:∀x,(f x).1=x.1/\(f x).2.1=x.2.1):∀{l:List (Nat×Nat×Nat)}{k lo hi:Nat},Ch g a lo l hi->Ch g a lo (l.modify k f) hi
 |[],k,lo,hi,h=>by rw[List.modify_nil];exact h
 |p::l,0,lo,hi,h=>by
  rw[List.modify_zero_cons];unfold Ch;rw[(c p).1,(c p).2];exact h
 |p::l,k+1,lo,hi,h=>by
  rw[List.modify_succ_cons];exact⟨h.1,h.2.1,h.2.2.1,Ch.mod c h.2.2.2⟩
def Ch.push{p:Array (Nat×Nat×Nat)}(h:Ch g a 0 p.toList lo)(c:0<n)(as:AscR g a lo (lo+n)):Ch g a 0 (p.push (lo,n,0)).toList (lo+n):=by
 rw[aep];exact Ch.cat h ⟨rfl,c,as,rfl⟩
section
variable {prog:aaD}{w:World}{A:aa6}{E:lD->mT->Prop}{s:mT}{β:Type}{st:aa2}
variable {d:ae2}{g:Keyed->Keyed->Bool}{b:List Keyed} (O:Orc prog w A s d g b) (nd:b.Nodup)
include O nd
theorem GL{Q:Unit->aa2->Prop}(S:SI d b st)(hp:aaZ st = #[])(h:∀st',SI d b st'->Srt g b (arrOf st').toList->Q () st'):wpS (model prog w) A E s sortRuns' Q st:=by
 rw[sortRuns'_eq];refine aas (afk ?_);dsimp only;refine aas (abF (abo (I:=λi c st'=>∃lo,c=(none,lo)/\SI d b st'/\i≤lo/\lo≤(arrOf st).size/\Ch g (arrOf st') 0 (aaZ st').toList lo) (Q:=λc st'=>c=(none,(arrOf st).size)/\SI d b st'/\Ch g (arrOf st') 0 (aaZ st').toList (arrOf st).size) ?_ ?_ ?_) ?_)
 .rintro i c st' _ hi ⟨lo,rfl,k,hl,hl2,C⟩;dsimp only;have sz:(arrOf st').size=(arrOf st).size:=by simpa using k.pm.length_eq.trans S.pm.length_eq.symm
  have K:=k;have F:=sz;refine bM (λz=>aaf ⟨by rw[show lo=(arrOf st).size by omega],k,by rwa[show(arrOf st).size=lo by omega]⟩) λz=>?_;refine aas (Jb O nd k (by omega) (by omega) λm u m1 m2 o a=>?_);dsimp only;have C:=C.oth o (.inl (Ad _));have k:SI d b (adn st' u):=⟨o.pm.trans k.pm,k.kd,k.fl⟩;have sz:(arrOf (adn st' u)).size=(arrOf st).size:=o.sz.trans sz;refine bM (λJ=>?_) λJ=>?_;apply aas;refine agb (abH ⟨rfl,?_⟩);refine aas (IP O nd k m1 (by omega) (by omega) a λa2 D Z=>?_);have R:1≤min ((arrOf st).size-lo) (minRun' (arrOf st).size (arrOf st).size 0):=by omega
  have P:min ((arrOf st).size-lo) (minRun' (arrOf st).size (arrOf st).size 0)≤(arrOf st).size-lo:=by omega
  have t:=Oth.trans o ⟨D.pm,λi hi=>D.ou i (by omega)⟩;replace C:=C.oth D (.inl (Ad _));clear D a m1 m2 J o k sz
  revert Z R P
  generalize min ((arrOf st).size-lo) (minRun' (arrOf st).size (arrOf st).size 0)=m;intro a m1 m2;rw[if_neg (by decide)]
  rename Oth _ _ _ _=>o
  revert m a2
  intro u o C m a m1 m2
  rotate_left
  clear J k sz
  rotate_left
  all_goals
   have v:SI d b (adn st' u):=⟨o.pm.trans K.pm,K.kd,K.fl⟩;refine aas (afk ?_)
   cases eb:(aaZ (adn st' u)).back? with
   |none=>exact aas (aeK (aaf ⟨_,rfl,⟨v.pm,v.kd,v.fl⟩,by omega,by omega,C.push m1 a⟩))
   | some p=>
    let⟨s1,n1',pw⟩:=p;refine aas (abF (abo (I:=λi c f=>c=(none,())/\SI d b f/\Oth 0 lo u (arrOf f)/\Ch g (arrOf f) 0 (aaZ f).toList lo) (Q:=λc f=>c=(none,())/\SI d b f/\Oth 0 lo u (arrOf f)/\Ch g (arrOf f) 0 (aaZ f).toList lo) ?_ (λ_ _ h=>h) ⟨rfl,v,.rfl',C⟩) ?_)
    .rintro j c f _ _ ⟨rfl,S3,t,C3⟩;have s3:(arrOf f).size=(arrOf st).size:=(t.sz.trans o.sz).trans F;refine aas (afk ?_)
     cases e:(if (aaZ f).size>1 then(aaZ f)[(aaZ f).size-2]? else none)with
     |none=>exact aaf ⟨rfl,S3,t,C3⟩
     | some q=>
      have hz:(aaZ f).size>1:=by
       by_cases z:(aaZ f).size>1
       .exact z
       .rw[if_neg z]at e;cases e
      refine bM (λ_=>aaf ⟨rfl,S3,t,C3⟩) λ_=>?_;refine aas (zw O nd S3 C3 (by omega) (by omega) λU W Y V _=>?_);exact aaf ⟨rfl,W,t.trans Y,V⟩
    .rintro c f ⟨rfl,S3,t,C3⟩;refine aas (aeK (aas (aeK (aaf ⟨_,rfl,⟨S3.pm,S3.kd,S3.fl⟩,by omega,by omega,Ch.push ?_ m1 (t.asc (.inr (Ad _)) a)⟩))));show Ch g _ 0 (Array.modify _ _ _).toList lo;rw[Array.toList_modify];refine Ch.mod ?_ C3;exact λ_=>⟨rfl,rfl⟩
 .rintro c st' ⟨lo,rfl,k,hl,hl2,C⟩;have e:lo=(arrOf st).size:=by omega
  exact⟨by rw[e],k,by rwa[<-e]⟩
 .exact⟨0,rfl,S,Ad _,act _,by rw[hp];exact rfl⟩
 intro c st' ⟨rfl,k,C⟩;dsimp only;have sz:(arrOf st').size=(arrOf st).size:=by simpa using k.pm.length_eq.trans S.pm.length_eq.symm
 refine aas (abF (abo (I:=λi c st'=>c=(none,())/\SI d b st'/\Ch g (arrOf st') 0 (aaZ st').toList (arrOf st).size/\(aaZ st').size+i≤(arrOf st).size) (Q:=λc st'=>c=(none,())/\SI d b st'/\Ch g (arrOf st') 0 (aaZ st').toList (arrOf st).size/\(aaZ st').size≤1) ?_ ?_ ?_) ?_)
 .rintro i c st' _ hi ⟨rfl,k,C,n⟩;have sz:(arrOf st').size=(arrOf st).size:=by simpa using k.pm.length_eq.trans S.pm.length_eq.symm
  refine aas (afk ?_);refine bM (λz=>aaf ⟨rfl,k,C,z⟩) λz=>?_;refine aas (zw O nd k C (by omega) (by split<;>(try split)<;>omega) λf v D C2 n2=>?_);exact aaf ⟨rfl,v,C2,by omega⟩
 .rintro c st' ⟨rfl,k,C,n⟩;exact⟨rfl,k,C,by omega⟩
 .have:=C.le;exact⟨rfl,k,C,by simpa using this⟩
 intro c st' ⟨rfl,k,C,n⟩;refine aaf (h _ k ⟨k.pm,?_⟩);have sz:(arrOf st').size=(arrOf st).size:=by simpa using k.pm.length_eq.trans S.pm.length_eq.symm
 have as:AscR g (arrOf st') 0 (arrOf st).size:=by
  rw[<-abO]at n;generalize (aaZ st').toList=l at C n
  match l with
  |[]=>have C':0=(arrOf st).size:=C;exact λi j _ _ _=>by omega
  |[p]=>
   let⟨c1,c2,X,T⟩:=C;have H:0+p.2.1=(arrOf st).size:=T;rwa[H]at X
  |_::_::_=>exact absurd n (by simp)
 refine aaU.mpr λi j hi hj L=>?_;have M:i<(arrOf st').size:=by simpa using hi
 have G:j<(arrOf st').size:=by simpa using hj
 have:=as i j (by omega) L (by omega);simpa[M,G]using this
end
mutual
theorem rQ:∀x:dL,ltD x x=false
 | .int a=>by simp[ltD]
 | .tuple c=>by simp only[ltD];exact vm c
 | .none=>by simp[ltD]
 | .bool _=>by simp[ltD]
 | .str _=>by simp[ltD]
 | .list _=>by simp[ltD]
 | .dict _=>by simp[ltD]
theorem vm:∀xs:List dL,ltDs xs xs=false
 |[]=>by simp[ltDs]
 |x::xs=>by simp[ltDs,vm xs,rQ x]
end
noncomputable def ixK (l:List Keyed) (x:Keyed):Nat:=open Classical in if h:∃i,l[i]?=some x then Classical.choose h else 0
theorem DG(nd:l.Nodup)(e:l[i]?=some x):ixK l x=i:=by
 have h:∃i,l[i]?=some x:=⟨i,e⟩;have:=Classical.choose_spec h;unfold ixK;rw[dif_pos h];have a:i<l.length:=(DL.mp e).1;exact((ahK a nd).mp (e.trans this.symm)).symm
theorem JP(nd:l.Nodup):l.map (ixK l)=aaw l.length:=by
 refine abD λi=>?_
 by_cases h:i<l.length
 .rw[GE,iO h,aca h,acD,DG nd (iO h)]
 .rw[agG (by simpa using h),agG (by simpa using h)]
section
variable {prog:aaD}{w:World}{A:aa6}{E:lD->mT->Prop}{s:mT}
noncomputable def JC(h h':aaX):Prop:=∀b o,h.get? b=some o->o.cls = .type "tuple" -> h'.get? b=some o
theorem uQ{h h':aaX}{k:Nat}(K:JC h h')(I:∀x y u as,x.depth≤k->smD x y=true->Reads h u x as->∃bs,Reads h' u x bs):∀(xs ys:List dL) us as,aaq xs≤k->smDs xs ys=true->adW h us xs as->∃bs,adW h' us xs bs
 |[],ys,us,as,_,_,r=>by cases r;exact⟨[],.nil⟩
 | x::xs,ys,us,as,hk,sm,r=>by
  cases ys with
  |nil=>exact absurd sm (by simp only[smDs];decide)
  | cons y ys=>
   simp[smDs]at sm;have b:max x.depth _≤k:=hk
   cases r with
   |cons r1 a=>
    let⟨b1,c⟩:=I x y _ _ (by omega) sm.1 r1;let⟨b2,q⟩:=uQ K I xs ys _ _ (by omega) sm.2 a;exact⟨_,.cons c q⟩
theorem x8{h h':aaX}(K:JC h h'):∀(k:Nat) (x y:dL) (u:lD) (as:List Addr),x.depth≤k->smD x y=true->Reads h u x as->∃bs,Reads h' u x bs
 |k,.int a,y,u,as,_,_,r=>by cases r;exact⟨_,.int _ _⟩
 |0,.tuple xs,y,u,as,hk,_,_=>absurd hk (by show ¬aaq xs+1≤0;contradiction)
 | k+1,.tuple xs,y,u,as,hk,sm,r=>by
  cases y with
  | tuple f=>
   have b:aaq xs+1≤k+1:=hk
   cases r with
   |tuple e c q z=>
    let⟨bs,d⟩:=uQ K (x8 K k) xs f _ _ (by omega) sm z;exact⟨_,.tuple (K _ _ e c) c q d⟩
  |_=>exact absurd sm (by simp only[smD];decide)
 |k,.none,y,u,as,_,sm,_=>absurd sm (by simp only[smD];decide)
 |k,.bool _,y,u,as,_,sm,_=>absurd sm (by simp only[smD];decide)
 |k,.str _,y,u,as,_,sm,_=>absurd sm (by simp only[smD];decide)
 |k,.list _,y,u,as,_,sm,_=>absurd sm (by simp only[smD];decide)
 |k,.dict _,y,u,as,_,sm,_=>absurd sm (by simp only[smD];decide)
theorem wq{fin r:Bool}{Q:Bool->mT->Prop}(q:Q r s):∀(ps:List (lD×lD)) (i:Nat),xH A s fin r ps->KatLex prog w A false fin Q ps i s
 |[],i,h=>kat_nil (by have a:=h;rw[<-a];exact q)
 |p::ps,i,⟨e,he,h1,h2⟩=>by
  refine kat_cons (he prog w _ _ ?_)
  cases e with
  |true=>exact kat_yes (wq q ps _ (h1 rfl))
  |false=>exact kat_no (kat_one _ _ (h2 rfl prog w _ _ q))
noncomputable def RdL(h:aaX):List lD->List dL->Prop
 |[],[]=>True
 |v::vs,d::ds=>(∃as,Reads h v d as)/\RdL h vs ds
 |_,_=>False
theorem RdL.len{h:aaX}:∀{vs:List lD}{ds:List dL},RdL h vs ds->vs.length=ds.length
 |[],[],_=>rfl
 |v::vs,d::ds,t=>by rw[aaG,aaG,RdL.len t.2]
 |[],_::_,t=>t.elim
 |_::_,[],t=>t.elim
theorem RdL.get{h:aaX}:∀{vs:List lD}{ds:List dL}{i:Nat},RdL h vs ds->i<vs.length->∃as,Reads h (vs.getD i .none) (ds.getD i .none) as
 |[],[],_,_,z=>by simp at z
 |v::vs,d::ds,0,t,_=>t.1
 |v::vs,d::ds,i+1,t,z=>by
  rw[List.getD_cons_succ];exact RdL.get t.2 (by simp_all)
 |[],_::_,_,t,_=>(t.elim)
 |_::_,[],_,t,_=>(t.elim)
noncomputable def tt1:dL->Bool
 | .tuple (.tuple _::_)=>true
 |_=>false
theorem yD{h:aaX}:∀{vs:List lD}{ds:List dL},RdL h vs ds->(∀d∈ds,tt1 d=true)->∃fs,KatTups h vs fs/\fs.length=vs.length/\∀v∈fs,∃b o,v = .ref b/\h.get? b=some o/\o.cls = .type "tuple"
 |[],[],_,_=>⟨[],.nil,rfl,λ_ h=>by cases h⟩
 | v::vs,d::ds,⟨⟨as,r⟩,t⟩,hd=>by
  let⟨fs,B,D,p⟩:=yD t λx g=>hd x (Ge _ g);have f:=hd d Io;let⟨y,j,rfl⟩:∃y j,d = .tuple (.tuple y::j):=by
   unfold tt1 at f
   split at f
   .exact⟨_,_,rfl⟩
   .cases f
  cases r with
  | tuple e c q z=>
   rename_i a o i n;generalize k:i.toList=L at z
   cases z with
   | cons r1 I=>
    rename_i u G C bs;have l:i[0]?=some u:=by
     rw[<-abT,k];rfl
    cases r1 with
    |tuple m F J H=>
     refine⟨_::fs,.cons e c q l B,by rw[aaG,aaG,D],λx g=>?_⟩;exact(aam.mp g).elim (λz=>by subst z;exact⟨_,_,rfl,m,F⟩) (p x)
 |[],_::_,t,_=>t.elim
 |_::_,[],t,_=>t.elim
theorem RdL.keep{h h':aaX}(K:JC h h'):∀{vs:List lD}{ds:List dL},(∀d∈ds,smD d d=true)->RdL h vs ds->RdL h' vs ds
 |[],[],_,_=>trivial
 |v::vs,d::ds,hs,⟨⟨as,r⟩,t⟩=>⟨x8 K d.depth d d v as (Ad _) (hs d Io) r,RdL.keep K (λx a=>hs x (Ge _ a)) t⟩
 |[],_::_,_,t=>t.elim
 |_::_,[],_,t=>t.elim
structure SrtOk(ds:List dL):Prop where
 n:ds.length<100000
 sm:∀x∈ds,∀y∈ds,smD x y=true
 tt:∀x∈ds,tt1 x=true
 dp:∀x∈ds,x.depth≤7
theorem Pf{u v:lD}{x y:dL}{as bs:List Addr}{Q:Bool->mT->Prop}(r1:Reads s.heap u x as)(r:Reads s.heap v y bs)(sm:smD x y=true)(t:tt1 x=true)(d:tt1 y=true)(k:A.units+x.depth<cLine)(h:Q (ltD x y) s):wpAny (model prog w) A (keyLt' (tuples' false) u v) Q E s:=by
 let⟨a1,b1,rfl⟩:∃a b,x = .tuple (.tuple a::b):=by
  unfold tt1 at t
  split at t
  .exact⟨_,_,rfl⟩
  .cases t
 let⟨a2,b2,rfl⟩:∃a b,y = .tuple (.tuple a::b):=by
  unfold tt1 at d
  split at d
  .exact⟨_,_,rfl⟩
  .cases d
 cases r1 with
 | tuple e c q z=>
  cases r with
  |tuple i o l j=>
   have g:A.units+(aaq _+1)<cLine:=k;let⟨n,m⟩:=j9 (uW _) A s _ _ _ _ _ _ (Ad _) z j sm (by exact aaN ‹_›);have f:Q (ltDs (.tuple a1::b1) _) s:=h;refine kat_lt e q i l (wq f _ 0 ?_)
   grind
noncomputable def ordP(ds:List dL)(p:List Nat):Prop:=p.Perm (aaw ds.length)/\∀i j,i<j->j<ds.length->ltD (ds.getD (p.getD i 0) .none) (ds.getD (p.getD j 0) .none)=true
theorem Jg(r6:RdL s.heap vs ds)(ok:SrtOk ds)(J:TotF ds.length λi j=>ltD (ds.getD i .none) (ds.getD j .none))(Y:2≤vs.length)(hu:A.units+7<cLine) :
  wpAny (model prog w) A ((sortRuns').run (afB (tuples' false) (vs.toArray.zip vs.toArray) #[] 7 none)) (λr s'=>∃q:List Nat,ordP ds q/\(arrOf r.2).map (·.2)=(q.map λi=>vs.getD i .none).toArray/\q.length=vs.length/\afC r.2=none/\s'=s) E s:=by
 have l:=r6.len;have n:(vs.toArray.zip vs.toArray).toList=vs.map λv=>(v,v):=by
  rw[ahU];show List.zip vs vs=_;refine abD λi=>?_;rw[GE,List.zip,List.getElem?_zipWith]
  cases vs[i]?<;>rfl
 have U:∀i,i<ds.length->ds.getD i .none∈ds:=λi g=>by rw[bh (iO g)];exact abr _
 have M:vs.Nodup:=aaU.mpr λi j g u D z=>by
  let⟨as,r1⟩:=r6.get g;let⟨bs,I⟩:=r6.get u;rw[Mt,iO g,z]at r1;rw[Mt,iO u]at I;have e:=(r1.unique _ _ I).1;have t:=J.tot i j (by omega) (by omega) (by omega);rw[e,rQ]at t
  cases t<;>contradiction
 have at':∀i,i<vs.length->(vs.toArray.zip vs.toArray).toList[i]?=some (vs.getD i .none,vs.getD i .none):=λi g=>by
  rw[n,GE,iO g,Mt,iO g];rfl
 have nd:(vs.toArray.zip vs.toArray).toList.Nodup:=by
  rw[n];exact List.Pairwise.map _ (λa b h z=>h (congrArg Prod.fst z)) M
 have mem:∀x∈(vs.toArray.zip vs.toArray).toList,∃i,i<vs.length/\x=(vs.getD i .none,vs.getD i .none)/\ixK (vs.toArray.zip vs.toArray).toList x=i:=λx m=>by
  let⟨i,g,e⟩:=afg m;have G:i<vs.length:=by rw[n]at g;simpa using g
  have H:=at' i G;rw[iO g]at H;refine⟨i,G,e.symm.trans (aal H),DG nd ?_⟩;rw[iO g,e]
 generalize K:(vs.toArray.zip vs.toArray).toList=o at *;have O:Orc prog w A s (tuples' false) (λx y=>ltD (ds.getD (ixK o x) .none) (ds.getD (ixK o y) .none)) o:=by
  refine⟨λx m y F C q=>?_,λx m y F z X=>?_,λx m y F N=>?_,λx m=>rQ _⟩
  .obtain⟨i,g,rfl,p⟩:=mem x m;let⟨j,u,rfl,B⟩:=mem y F;rw[p,B]at q;let⟨as,r1⟩:=r6.get g;let⟨bs,I⟩:=r6.get u;have m1:=U i (by omega);have m2:=U j (by omega);exact Pf r1 I (ok.sm _ m1 _ m2) (ok.tt _ m1) (ok.tt _ m2) (by have:=ok.dp _ m1;omega) q
  .obtain⟨i,g,_,p⟩:=mem x m;let⟨j,u,_,B⟩:=mem y F;let⟨k,Z,_,V⟩:=mem z X;rw[p,B,V];exact J.tr i j k (by omega) (by omega) (by omega)
  .obtain⟨i,g,L,p⟩:=mem x m;let⟨j,u,H,B⟩:=mem y F;rw[p,B];exact J.tot i j (by omega) (by omega) λz=>N (by rw[L,H,z])
 have W:=GL (E:=E) (Q:=λ_ f=>∃q:List Nat,ordP ds q/\(arrOf f).map (·.2)=(q.map λi=>vs.getD i .none).toArray/\q.length=vs.length/\afC f=none) O nd (st:=afB (tuples' false) (vs.toArray.zip vs.toArray) #[] 7 none) ⟨by show List.Perm (agf _) _;rw[K],rfl,rfl⟩ rfl λf S R=>by
  have ln:o.length=vs.length:=by rw[n,gE]
  have P:((arrOf f).toList.map (ixK o)).Perm (aaw ds.length):=by
   refine(S.pm.map _).trans ?_;rw[JP nd,ln,l]
  refine⟨(arrOf f).toList.map (ixK o),⟨P,λi j D u=>?_⟩,?_,by rw[P.length_eq,aaW,l],S.fl⟩
  .have sz:(arrOf f).toList.length=ds.length:=by rw[S.pm.length_eq,ln,l]
   have:=aaU.mp R.so i j (by omega) (by omega) D;have T:∀k (h:k<(arrOf f).toList.length),((arrOf f).toList.map (ixK o)).getD k 0=ixK o (arrOf f).toList[k]:=λk h=>by rw[Mt,GE,iO h];rfl
   rw[T i (by omega),T j (by omega)];exact this
  .apply ahV.mp;rw[ahW];rw[abc];refine ag5 λx m=>?_;let⟨i,g,L,p⟩:=mem x (S.pm.mem_iff.mp m);show x.2=vs.getD (ixK o x) .none;rw[p,L]
 unfold wpS at W;exact acy W (λr s' ⟨e,q,a,b,c,d⟩=>⟨q,a,b,c,d,e⟩) λ_ _ e=>e
theorem nR{a:Addr}{P:PySem.Fin->mT->Prop}(ho:s.heap.get? a=some (afd "list" vs.toArray n))(hr:RdL s.heap vs ds)(ok:SrtOk ds)(y:TotF ds.length λi j=>ltD (ds.getD i .none) (ds.getD j .none))(M:A.units+7<cLine)
  (h:∀p:List Nat,ordP ds p->P (.done (.ret .none)) {s with heap:=agt s.heap a vs (p.map λi=>vs.getD i .none).toArray}):wpAny (model prog w) A
  (ac8.«list.sort» ⟨[.ref a],[]⟩) P E s:=by
 have k:=hr.len;have S:=ok.n;rw[list_sort_plain];have l:(s.heap.update a (acN λ_=>#[])).get? a=some (afd "list" #[] _):=get?_update_seq ho λ_=>#[];have f:(((s.heap.update a (acN λ_=>#[])).push (afd "tuple" vs.toArray 0)).push (afd "list" #[] 0)).get? a=some (afd "list" #[] _):=AD _ (AD _ l);refine aD (listItems_at ho rfl (aD (ahj ho rfl (aD (seqEpoch_at l rfl (aD (m:=newTuple _) (afv (aD (m:=newList _) (wpAny_newList (abI ?_))))))))));have r6:RdL (((s.heap.update a (acN λ_=>#[])).push (afd "tuple" vs.toArray 0)).push (afd "list" #[] 0)) vs ds:=hr.keep (λb o e c=>by
  have hb:b≠a:=λz=>by
   rw[z,ho]at e;have K:o.cls=age "list":=by rw[<-aal e]
   rw[K]at c;exact absurd c (by decide)
  refine AD _ (AD _ ?_);rw[aaX.get?_update_ne _ _ _ _ hb];exact e) λd hd=>ok.sm d hd d hd
 generalize u:((s.heap.update a (acN λ_=>#[])).push (afd "tuple" vs.toArray 0)).push (afd "list" #[] 0)=t at f r6;have U:agt s.heap a vs=λout=>agt s.heap a vs out:=rfl;change wpAny _ A _ P E ({s with heap:=t}:mT);dsimp only;have G:(vs.toArray:Array lD).size=vs.length:=aav
 by_cases r:(vs.toArray:Array lD).size<2
 .rw[if_pos r,if_pos r];refine aD (Dl ?_);rw[StateT.run_pure];refine aD (Dl ?_);dsimp only;refine aD (seqEpoch_at f rfl ?_);refine aD (ahj f rfl ?_ (hsz2:=by rw[Array.size_map];show(pairsOf vs).size≤_;rw[pairsOf_size,aag];omega));simp only[if_false,adg,bne_self_eq_false];refine Dl ?_;have g:=h (aaw ds.length) ⟨List.Perm.refl _,λi j L Z=>by omega⟩;have C:((aaw ds.length).map λi=>vs.getD i .none).toArray=(arrOf (afB general' (vs.toArray.zip vs.toArray) #[] 7 none)).map (·.2):=by
   show _=(vs.toArray.zip vs.toArray).map (·.2);apply ahV.mp;rw[ahW,ahU];refine abD λi=>?_
   by_cases x:i<vs.length
   .simp[aca,x,<-k]
   .simp[aca,x,<-k]
  rw[C]at g;unfold agt at g;rw[u]at g;exact g
 .rw[if_neg r,if_neg r];let⟨fs,R,Y,O⟩:=yD r6 ok.tt;refine aD (kat_kind (s:={s with heap:=t}) (T:=.type "tuple") R (by omega) (λv B=>?_) rfl ?_)
  .obtain⟨b,o,rfl,e1,c1⟩:=O v B;exact λW X V D H q=>add ⟨o,H _ _ e1,c1⟩ q
  rw[show(age "tuple" != age "tuple")=false by decide];refine aD (acy (Jg (s:={s with heap:=t}) r6 ok y (by omega) M) ?_ λ_ _ e=>e);rintro⟨⟨⟩,N⟩ D ⟨q,F,I,J,Q,rfl⟩;dsimp only;rw[I];refine aD (seqEpoch_at f rfl ?_);refine aD (ahj f rfl ?_ (hsz2:=by simp;rw[J,aag];omega));rw[Q];simp only[if_false,adg,bne_self_eq_false];have g:=h q F;unfold agt at g;rw[u]at g;exact Dl g
end
section
variable {prog:aaD}{w:World}{A:aa6}{E:lD->mT->Prop}{s:mT}
theorem l5{v:lD}{C:aaX->List lD->Prop}{Q:lD->mT->Prop}(ok:SrtOk ds)(g:TotF ds.length λi j=>ltD (ds.getD i .none) (ds.getD j .none))(x:A.units+10<cLine)
  (f:∀(P:List lD->mT->Prop) (E:lD->mT->Prop),(∀h' vs,(∀b o,s.heap.get? b=some o->h'.get? b=some o)->RdL h' vs ds->C h' vs->P vs {s with heap:=h' })->wpAny (model prog w) A.in1 (collect v) P E s)
  (h:∀(a c:aaX) (vs:List lD) (p:List Nat) (L:Addr) (e:Nat),(∀b o,s.heap.get? b=some o->a.get? b=some o)->C a vs->RdL a vs ds->(∀b o,a.get? b=some o->c.get? b=some o)->L=a.objs.size->c.get? L=some (afd "list" (p.map λi=>vs.getD i .none).toArray e)->ordP ds p->Q (.ref L) {s with heap:=c}) :
  wpAny (model prog w) A (call (.builtin "sorted") [v]) Q E s:=by
 refine Calls.call_function_entry kind_sorted plain_sorted entry_sorted (args:=_) (args_sorted1 v) ?_;refine aD (m:=checkCount "sorted" 1 1 _) (Dl (aD (f _ _ λa vs t r1 l=>aD (m:=newList vs) (wpAny_newList ?_ (hsz:=by rw[r1.len,aag];have:=ok.n;omega)))));have at1:(a.push (afd "list" vs.toArray 0)).get? a.objs.size=some (afd "list" vs.toArray 0):=aaa _ rfl;have k:∀b o,a.get? b=some o->(a.push (afd "list" vs.toArray 0)).get? b=some o:=λb o q=>AD _ q;have r:=r1.keep (λb o q _=>k b o q) λd hd=>ok.sm d hd d hd;refine aD (m:=adx _ _) (abI (acy (aaJ slot_list_sort ⟨_,at1,rfl⟩ entry_list_sort (nR at1 r ok g (show A.units+1+1+7<cLine by exact aaN ‹_›) λp hp=>⟨_,rfl,?_⟩) (args_list_sort _)) (λy n (q:Q (.ref a.objs.size) n)=>Dl ⟨_,rfl,q⟩) λ_ _ z=>z));let⟨e,u⟩:=sortedHeap_at at1;exact h a _ vs p _ e t l r1 (λb o q=>by
  have lt:b<a.objs.size:=OR q;rw[sortedHeap_old (aaS lt) (by rw[size_push'];exact aem lt)];exact k b o q) rfl u hp
end
theorem qC(h:aaX):h.get? h.objs.size=none:=by
 cases e:h.get? h.objs.size with
 |none=>rfl
 |some o=>exact(ac0 _ (OR e)).elim
noncomputable def updR(H:Hp)(B:Addr)(g:Nat->HO):Nat->Hp
 |0=>H
 |n+1=>upd (updR H B g n) (B+n) (g n)
theorem h9{H:Hp}{B:Addr}{g:Nat->HO}{b:Addr}:∀{n:Nat},(∀j,j<n->b≠B+j)->updR H B g n b=H b
 |0,_=>rfl
 |n+1,h=>by
  show upd _ _ _ b=_;rw[au (h n (ab1 n))];exact h9 λj a=>h j (aem a)
theorem t9{H:Hp}{B:Addr}{g:Nat->HO}{j:Nat}:∀{n:Nat},j<n->updR H B g n (B+j)=some (g j)
 |0,h=>absurd h (Nat.not_lt_zero _)
 |n+1,h=>by
  by_cases e:j=n
  .subst e;exact ay
  .show upd _ _ _ _=_;rw[au (λz=>e (ahb z))];exact t9 (by omega)
section
variable {X:Cx}{pins:List (Addr×Obj)}{σ:List (Option V)}{H:Hp}{s:mT}{h':aaX}
def CV{g:Nat->HO}{b:Addr}(h:b<B):updR H B g n b=H b:=h9 λj _=>aaS (aan h (acl _ _))
def cX{g:Nat->HO}{b:Addr}{o:HO}(fr:∀j,H (B+j)=none)(h:H b=some o):updR H B g n b=some o:=by
 rw[h9 λj _ z=>by rw[z,fr j]at h;cases h];exact h
theorem Inv.laidR{g:Nat->HO}{t':Nat}(I:Inv X pins σ H s)(k:∀b u,s.heap.get? b=some u->h'.get? b=some u)(hp:s.heap.objs.size≤B)(new:∀j,j<n->ObjOk X.prog X.w (updR H B g n) h' (B+j) (g j)) :
  Inv X pins σ (updR H B g n) {s with heap:=h',toks:=t' }:=by
 have fr:∀j,H (B+j)=none:=λj=>I.hok.fresh (aak hp (acl _ _));refine I.un ⟨λb u q _ _ _=>k b u q,λb u q _ _ _=>⟨u.slots,k b u q⟩,λb u q n _=>?_,λb u q _=>⟨u,k b u q⟩,λb x q=>cX fr q,λb u x q=>cX fr q,λb p q=>⟨#[],?_⟩⟩ λb u e=>?_
 .rw[CV (aan (OR q) hp)];exact n
 .rw[cX fr q];simp
 .by_cases hb:∃j,j<n/\b=B+j
  .obtain⟨j,h,rfl⟩:=hb;rw[t9 h]at e;rw[<-aal e];exact new j h
  .rw[h9 λj h z=>hb ⟨j,h,z⟩]at e;exact(I.hok b u e).stay (λc v _ q=>k c v q) (λc q=>cX fr q) λc x q=>cX fr q
theorem wx{p:List Nat}(h:ordP ds p):(p.map λi=>ds.getD i .none).Perm ds/\(p.map λi=>ds.getD i .none).Pairwise λa b=>ltD a b=true:=by
 have g:p.length=ds.length:=by rw[h.1.length_eq,aaW]
 constructor
 .have e:(aaw ds.length).map (λi=>ds.getD i .none)=ds:=abD λi=>by
   by_cases d:i<ds.length
   .simp_all
   .simp_all
  have:=h.1.map λi=>ds.getD i .none;rwa[e]at this
 .refine aaU.mpr λi j d f c=>?_;rw[gE]at d f;rw[aeL,aeL];have:=h.2 i j c (by omega);rwa[bh (iO d),bh (iO f)]at this
theorem w5(I:Inv X pins σ H s):∀{ds:List dL}{xs:List V}{u:List lD},(∀d∈ds,d.canLay0=true)->DenAll X.kx H ds xs->Vals xs u->RdL s.heap u ds
 |[],xs,u,_,g,r=>by
  subst g;cases r;trivial
 |d::ds,xs,u,hl,g,r=>by
  let⟨x,b,rfl,c,a⟩:=g
  cases r with
  |cons h t=>exact⟨Den.reads I (abe _ (hl d Io)) c h,w5 I (λx e=>hl x (Ge _ e)) a t⟩
def SrtOk.lay(ok:SrtOk ds):∀d∈ds,d.canLay0=true:=λd hd=>(xn (ok.sm d hd d hd)).1
structure SrtT(ds:List dL):Prop where
 ok:SrtOk ds
 tot:TotF ds.length λi j=>ltD (ds.getD i .none) (ds.getD j .none)
noncomputable def srtR(ds:List dL)(K:List dL->Prop):Prop:=SrtT ds/\∀d:List dL,d.Perm ds->d.Pairwise (λa b=>ltD a b=true)->K d
noncomputable abbrev Km:WC:=λrs m K=>on1 (onDc λk=>srtR (pc k) λd=>K (.new d)) rs
theorem nq{K:Kd}{H:Hp}:∀{kvs:List (dL×dL)}{es:List (V×V)},PDc K H kvs es->DenAll K H (pc kvs) (es.map (·.1))
 |_,_,.nil=>by simp only[pc,adI,DenAll]
 |_,_,.cons h t=>by
  simp only[pc,aar,DenAll];exact⟨_,_,rfl,h.1,nq t⟩
theorem ue:∀{xs:List V}{a:List lD},xs.length=a.length->(∀(j:Nat) (x:V) (u:lD),xs[j]?=some x->a[j]?=some u->RelV x u)->Vals xs a
 |[],[],_,_=>.nil
 |x::xs,u::a,hl,h=>.cons (h 0 x u rfl rfl) (ue (by simpa using hl) λj x u e b=>h (j+1) x u ‹_› ‹_›)
 |[],_::_,hl,_=>(ac9 _ hl).elim
 |_::_,[],hl,_=>(ac9 _ hl.symm).elim
theorem si(hc:X.calm=true)(hu:X.A.units+64<cLine):di X (.builtin "sorted") (cM X.kx Km):=by
 intro pins s D H xs us Q I rv ⟨α,m,σ,H0,rs,Kc,Rl,h,ho,fin⟩;let⟨r,v,rfl,rfl,w,ho⟩:=dH h ho;let⟨B,a,o,g,rfl,dc,F,st,ho⟩:=Ol w ho;let⟨u,rfl,ru⟩:=rv.one;cases ru;let⟨t,c,A,M,g2,g3,N⟩:=I.dce dc;have T:EntAt s.heap a c A:=⟨o,M,g2,g3⟩;have W:g.length=c.size:=by have:=N.length;simpa using this
 have Y:(pc B).length=g.length:=by unfold pc;rw[gE,F.length]
 have hn:=st.ok.n;refine l5 (C:=λh vs=>s.heap.objs.size<h.objs.size/\Vals (g.map (·.1)) vs) st.ok st.tot (by omega) (λP E hP=>?_) λw h2 vs p L e k1 c1 r1 k2 hL G hp=>?_
 .refine lW (St:=λO i h=>EntAt h a c A/\sj h O a i c.size A) (P:=λ_ _ i v=>∃hi:i<c.size,v=c[i].key) (n:=c.size) T.ty (.inr rfl) (by rw[aag];omega) (λs1 Q1 E1 V q=>z9 V q) (λs1 Q1 E1 U ⟨oS,hS⟩ hq=>?_) λO h' f k z az pz=>?_
  .have lS:s.heap.objs.size<s1.heap.objs.size:=OR hS;have la:a<s.heap.objs.size:=OR M;have l:EntAt s1.heap a c A:=T.keep λo q=>U _ _ q;refine zF t l λh' Z R=>hq h' _ (aaY lS) (Ip (I.ok.hd hc) (aaS lS) (aaY la) (aaY (aaA la lS))) ⟨l.keep λo q=>R _ _ q,Z⟩ R ?_;exact qC _
  .have hv:Vals (g.map (·.1)) f.toList:=ue (by have z1:f.toList.length=f.size:=abO;rw[gE,z1,az,W]) λj x u S J=>by
    rw[GE]at S;let⟨ev,e3,rfl⟩:=adl.mp S;rw[abT]at J;let⟨hj,rfl⟩:=pz j u J;let⟨ev',K,e5,_⟩:=Paired.at N (i:=j) (y:=c[j]) (by simp[hj]);rw[e3]at K;rw[aal K];exact e5
   have I':Inv X pins D H {s with heap:=h' }:=I.kept (t':=s.toks) k;exact hP h' f.toList k (w5 I' st.ok.lay (nq F) hv) ⟨z,hv⟩
 .obtain⟨z,hv⟩:=c1;subst hL;have d:H w.objs.size=none:=I.hok.fresh (aaN z);have hpl:p.length=c.size:=by have:=hp.1.length_eq;rw[aaW]at this;omega
  let⟨o1,o2⟩:=wx hp;refine⟨.ref w.objs.size,_,I.laid (t':=s.toks) (λb o q=>k2 b o (k1 b o q)) (aaN z) (show ObjOk X.prog X.w _ _ _ (.lst (p.map λi=>(g.map (·.1)).getD i .non))from⟨by rw[gE,aag];omega,_,e,jP hv p,by rw[G]⟩),rfl,?_⟩;exact fin _ _ _ (ho _ o1 o2) (Rl.lay d) ⟨_,_,rfl,d,ay,(oj (nq F) p).mono (bu (.inl d))⟩ (cz d)
theorem qr{K:Kd}{H:Hp}:∀{ds:List dL}{xs:List V},ds.length=xs.length->(∀(j:Nat) (d:dL) (x:V),ds[j]?=some d->xs[j]?=some x->Den K H d x)->DenAll K H ds xs
 |[],[],_,_=>by simp[DenAll]
 |d::ds,x::xs,hl,h=>by
  exact⟨x,xs,rfl,h 0 d x rfl rfl,qr (by simpa using hl) λj d x a e=>h (j+1) d x ‹_› ‹_›⟩
 |[],_::_,hl,_=>(ac9 _ hl).elim
 |_::_,[],hl,_=>(ac9 _ hl.symm).elim
theorem yC{H:Hp}{g:Nat->HO}(fr:∀j,H (B+j)=none)(n:Nat):Pers H (updR H B g n):=⟨λb x q=>cX fr q,λb o u q=>cX fr q⟩
noncomputable def itmG(es:List (V×V))(j:Nat):HO:=.tup [(es.getD j (.non,.non)).1,(es.getD j (.non,.non)).2]
noncomputable def qQ(B:Addr)(n:Nat):List V:=(aaw n).map λj=>.ref (B+j)
theorem qy{K:Kd}{H:Hp}(fr:∀j,H (B+j)=none)(c:PDc K H kvs es):DenAll K (updR H B (itmG es) es.length) (cw kvs) (qQ B es.length):=by
 have f:=yC (g:=itmG es) fr es.length;refine qr (by unfold cw qQ;rw[gE,gE,aaW,c.length]) λj d x a e=>?_;unfold cw at a;rw[GE]at a;let⟨p,n,rfl⟩:=adl.mp a;let⟨i,h,m,l⟩:=Paired.at1 c n;have k:=(DL.mp h).1;unfold qQ at e;rw[GE,aca k]at e;have b:=aal e;subst b;have o:itmG es j = .tup [i.1,i.2]:=by unfold itmG;rw[bh h]
 exact cR (SqT.of ((t9 k).trans (by rw[o]))) (DenAll.cons (m.mono f) (DenAll.cons (l.mono f) DenAll.nil))
noncomputable def DcR(H:Hp)(a:Addr)(es:List (V×V)):Prop:=(∃x,Rd H a (dX a x)/\es=x.map (·.2))\/∃x,Rd H a (.dK x)/\es=x.map λp=>(kV p.1,p.2)
theorem Inv.dcr{X:Cx}{pins:List (Addr×Obj)}{σ:St}{H:Hp}{s:mT}(I:Inv X pins σ H s){a:Addr}(h:DcR H a es):(a==abv)=false/\∃o b c,s.heap.get? a=some o/\o.ExactDict/\o.data = .dict b c/\abJ (λ(e:V×V) (d:ab9)=>RelV e.1 d.key/\RelV e.2 d.val) es b.toList:=by
 rcases h with⟨x,e,rfl⟩|⟨x,e,rfl⟩
 .obtain⟨⟨hs,hz,o,b,c,h1,h2,h3,h4⟩,_⟩:=(show ObjOk X.prog X.w H s.heap a (dX a x)from e.ok I.hok);refine⟨hs,o,b,c,h1,h2,h3,?_⟩;clear e hz;generalize b.toList=l at h4;rename_i z;clear z
  induction h4 with
  |nil=>exact .nil
  |cons q _ i=>exact .cons q.2 i
 .obtain⟨hz,hs,vs,kv,o,b,c,h1,h2,h3,h4,h5,h6⟩:=vM I.hok e;refine⟨hs,o,b,c,h1,h2,h3,?_⟩;generalize b.toList=l at h5;clear h6 h4 h3 h2 hz e
  induction kv generalizing l with
  |nil=>cases h5;exact .nil
  | cons q _ i=>
   cases h5 with
   |cons p g f=>
    rw[aar];refine .cons ⟨?_,?_⟩ (i _ f)
    .rw[<-q.1]at p;exact yv p
    .rw[g];exact q.2
theorem IsDc.dcr{K:Kd}{H:Hp}{a:Addr}(h:IsDc K H a kvs):∃es,DcR H a es/\PDc K H kvs es:=by
 rcases h with⟨es,r,g⟩|⟨es,r,_,_,g⟩
 .exact⟨_,.inr ⟨es,r,rfl⟩,sI g⟩
 .exact⟨_,.inl ⟨es,r,rfl⟩,sN g⟩
noncomputable def Oy(K:Kd)(to:TE):TE:=λσ H Q=>to σ H λx c=>∃a f k,x = .ref a/\DcR c a f/\PDc K c k f/\SrtT (cw k)/\∀(d:List dL) (B:Addr) (g:Nat->HO) (n:Nat) (L:Addr) (e:List V),d.Perm (cw k)->d.Pairwise (λa b=>ltD a b=true)->(∀j,c (B+j)=none)->updR c B g n L=none->DenAll K (upd (updR c B g n) L (.lst e)) d e->Q (.ref L) (upd (updR c B g n) L (.lst e))
theorem Cv{p0:Pos}{to:TE}(hc:X.calm=true)(hu:X.A.units+64<cLine)(hg:Gl X "sorted")(hm:X.mg "sorted" = none)(ho:PE X o to)(t:abz o "items" X.env (eval o X.env)=eval o X.env:=by rfl)(w:(apos.endLine==cpos.line)=true:=by rfl)
  (N:aac [.Call (.Attribute o "items" apos) [] [] cpos] X.env=[(false,eval (.Call (.Attribute o "items" apos) [] [] cpos) X.env)]:=by rfl):PE X (.Call (.Name "sorted" p0) [.Call (.Attribute o "items" apos) [] [] cpos] [] pos) (Oy X.kx to):=by
 intro pins s σ H Q I h;refine ad6 (l8 I hg hm q9 ?_);refine aeD ?_ N rfl;rw[N];refine ahm ?_;refine af8 t w (thn (ho pins s σ H _ I h) λv s1 ⟨x,U,I1,r1,q1⟩=>?_);let⟨a,l,W,rfl,dc,pd,st,q⟩:=q1;cases r1;let⟨M,ob,c,V,S,g2,g3,g4⟩:=I1.dcr dc;have he:EntAt s1.heap a c V:=⟨ob,S,g2,g3⟩;refine⟨"dict","dict.items",aef,aeg,af9,⟨ob,S,g2.1⟩,λb e=>by cases e;exact⟨ob,S,g2.2.1⟩,adf rfl (ag6 (lP M he ?_))⟩;refine ahy ?_;have kv:∀b o,s1.heap.get? b=some o->(s1.heap.push {cls:=.type "dict_items",data:=.fields #[.ref a]}).get? b=some o:=λb o q=>AD _ q;have hl:l.length=c.size:=by have:=g4.length;simpa using this
 have hil:(cw W).length=l.length:=by unfold cw;rw[gE,pd.length]
 have hn:=st.ok.n;have T:Inv X pins σ U {s1 with heap:=s1.heap.push {cls:=.type "dict_items",data:=.fields #[.ref a]} }:=I1.kept (t':=s1.toks) kv;have m:(s1.heap.push {cls:=.type "dict_items",data:=.fields #[.ref a]}).get? s1.heap.objs.size=some {cls:=.type "dict_items",data:=.fields #[.ref a]}:=aaa _ rfl;have K:EntAt (s1.heap.push {cls:=.type "dict_items",data:=.fields #[.ref a]}) a c V:=he.keep λo q=>kv _ _ q;have la:a<s1.heap.objs.size:=OR S;generalize hS2:({s1 with heap:=s1.heap.push {cls:=.type "dict_items",data:=.fields #[.ref a]} }:mT)=s2 at T⊢;have hh2:s2.heap=s1.heap.push {cls:=.type "dict_items",data:=.fields #[.ref a]}:=by rw[<-hS2]
 rw[<-hh2]at m K;have lv:s1.heap.objs.size<s2.heap.objs.size:=OR m;have lay:∀(h':aaX) (d:Addr),(∀b o,s2.heap.get? b=some o->h'.get? b=some o)->s2.heap.objs.size≤d+1->(∀j (r:j<c.size),h'.get? (d+1+j)=some {cls:=.type "tuple",data:=.seq #[c[j].key,c[j].val]})->Inv X pins σ (updR U (d+1) (itmG l) l.length) {s2 with heap:=h' }:=λh' d k z tp=>by
  refine T.laidR (t':=s2.toks) k z λj r=>?_;let⟨ev,A,R,G⟩:=Paired.at g4 (i:=j) (y:=c[j]) (by simp[show j<c.size by omega]);have eg:itmG l j = .tup [ev.1,ev.2]:=by unfold itmG;rw[bh A]
  rw[eg];exact⟨by show 2≤aad;rw[aag];decide,[c[j].key,c[j].val],.cons R (.cons G .nil),⟨_,tp j (by omega),rfl,rfl,_,rfl⟩⟩
 have B:∀(d:Addr) (f:Array lD),f.size=c.size->(∀(j:Nat) u,f[j]?=some u->u = .ref (d+1+j))->Vals (qQ (d+1) l.length) f.toList:=λd f az ar=>ue (by have z1:f.toList.length=f.size:=abO;unfold qQ;rw[gE,aaW,z1,az,hl]) λj x u A R=>by
  unfold qQ at A;rw[GE]at A;let⟨j',G,rfl⟩:=adl.mp A;have F:j<l.length:=by have:=(DL.mp G).1;rwa[aaW]at this
  rw[aca F]at G;rw[abT]at R;rw[ar j u R,aal G];exact rfl
 have fr:∀(d:Addr),s2.heap.objs.size≤d+1->∀j,U (d+1+j)=none:=λd z j=>T.hok.fresh (aak z (acl _ _));refine l5 (s:=s2) (C:=λh vs=>∃d:Addr,s2.heap.objs.size≤d+1/\(∀j (r:j<c.size),h.get? (d+1+j)=some {cls:=.type "tuple",data:=.seq #[c[j].key,c[j].val]})/\Vals (qQ (d+1) l.length) vs) st.ok st.tot (by omega) (λP E hP=>?_) ?_
 .refine lW (St:=λd=>StI s2.heap.objs.size d a c V) (P:=λd=>PrI s2.heap.objs.size d c) (n:=c.size) ⟨_,m,rfl⟩ (.inl rfl) (by rw[aag];omega) (λs3 Q3 E3 hT q=>vZ hT q) (λs3 Q3 E3 k0 ⟨oS,hS⟩ hq=>?_) λd h' f k zz az Y=>?_
  .have lS:s2.heap.objs.size<s3.heap.objs.size:=OR hS;have J:EntAt s3.heap a c V:=K.keep λo q=>k0 _ _ q;refine AC (k0 _ _ m) J λh' Z sz hk=>hq h' _ (aaY lS) (CJ (T.ok.hd hc) lS (aaY (aaA la lv)) (aaY (aaA la (aaA lv lS)))) ⟨J.keep λo q=>hk _ _ q,sz,.inl ⟨_,_,Z⟩⟩ hk (qC _)
  .obtain⟨g,z',tp',ar'⟩:∃g:Addr,s2.heap.objs.size≤g+1/\(∀j (r:j<c.size),h'.get? (g+1+j)=some {cls:=.type "tuple",data:=.seq #[c[j].key,c[j].val]})/\∀(j:Nat) u,f[j]?=some u->u = .ref (g+1+j):=by
    by_cases e0:c.size=0
    .exact⟨s2.heap.objs.size,ahX _,λj r=>by omega,λj u e=>by have:=(Array.getElem?_eq_some_iff.mp e).1;omega⟩
    .have get:∀j,j<c.size->∃u,f[j]?=some u:=λj r=>⟨_,abu (show j<f.size by omega)⟩;let⟨u0,A⟩:=get 0 (by omega);have l0:=(Y 0 u0 A).1;refine⟨d,aaN (aem l0),λj r=>?_,λj u e=>(Y j u e).2.1⟩;let⟨u,e⟩:=get j r;let⟨_,_,F,q⟩:=Y j u e;exact q
   have O:=B g f az ar';have I':=lay h' g k z' tp';exact hP h' f.toList k (w5 I' st.ok.lay (qy (fr g z') pd) O) ⟨g,z',tp',O⟩
 .rintro h1 h2 vs p L e k1 ⟨d,z,tp,O⟩ r1 k2 hL hl2 hp;subst hL;have I3:=lay h1 d k1 z tp;have D:updR U (d+1) (itmG l) l.length h1.objs.size=none:=I3.hok.fresh (Ad _);let⟨o1,o2⟩:=wx hp;have hpl:p.length=c.size:=by have:=hp.1.length_eq;rw[aaW]at this;omega
  exact⟨.ref h1.objs.size,_,I3.laid (t':=s2.toks) k2 (Ad _) (show ObjOk X.prog X.w _ _ _ (.lst (p.map λi=>(qQ (d+1) l.length).getD i .non))from⟨by rw[gE,aag];omega,_,e,jP O p,by rw[hl2]⟩),rfl,q _ _ _ _ _ _ o1 o2 (fr d z) D ((oj (qy (fr d z) pd) p).mono (bu (.inl D)))⟩
theorem Aq{H:Hp}{g:Nat->HO}{b:Addr}(fr:∀j,H (B+j)=none)(h:updR H B g n b=none):H b=none:=by
 cases e:H b with
 |none=>rfl
 |some o=>rw[cX fr e]at h;cases h
theorem Rel.layR{K:Kx}{a:Al}{m:MSt}{σ:St}{H:Hp}{B:Addr}{g:Nat->HO}(R:Rel K a m σ H)(fr:∀j,H (B+j)=none):∀n,Rel K a m σ (updR H B g n)
 |0=>R
 |n+1=>(Rel.layR R fr n).lay (by rw[h9 λj h z=>aaY h (ahb z)];exact fr n)
theorem Df{a:Al}{H:Hp}{g:Nat->HO}(fr:∀j,H (B+j)=none)(n:Nat):Frm a H (updR H B g n):=λb o e _=>cX fr e
noncomputable abbrev DM(w:WE):WE:=λm K=>w m λr a=>∃k,dcM a k r/\(isKd k=true\/kyA k=true)/\srtR (cw k) λd=>K (.new d) a
theorem Ca{p0:Pos}{w:WE}(z:X.A.units+64<cLine)(E:X.mg "sorted" = none)(ho:ME X o w)(G:X.calm=true:=by rfl)(q:Gl X "sorted":=by rfl)(h:abz o "items" X.env (eval o X.env)=eval o X.env:=by rfl)(b:(apos.endLine==cpos.line)=true:=by rfl)
  (i:aac [.Call (.Attribute o "items" apos) [] [] cpos] X.env=[(false,eval (.Call (.Attribute o "items" apos) [] [] cpos) X.env)]:=by rfl):ME X (.Call (.Name "sorted" p0) [.Call (.Attribute o "items" apos) [] [] cpos] [] pos) (DM w):=(Cv G z q E ho h b i).wk<|by
 intro σ H Q ⟨x,m,O,y,K,fin⟩;refine⟨x,m,_,y,K,λr M v N k n R rr F=>?_⟩;let⟨c,D,p,st,k⟩:=k;let⟨a,rfl,dc⟩:=rr.dc R D p;let⟨l,dc,C⟩:=dc.dcr;refine⟨a,l,c,rfl,dc,C,st,λe B g j L A J t fr f d=>?_⟩;have I:=Rel.layR (g:=g) R fr j;have u:=F.trans (Df (g:=g) fr j);exact fin _ M _ _ (k e J t) n (I.lay f) (RelR.base R F (⟨L,A,rfl,Aq fr f,ay,d⟩)) (u.trans (cz f))
theorem wy{p0:Pos}{w:WE}(e:X.A.units+64<cLine)(c:X.mg "sorted" = none)(ho:EE X o w)(d:X.calm=true:=by rfl)(f:Gl X "sorted":=by rfl)(h:abz o "items" X.env (eval o X.env)=eval o X.env:=by rfl)(a:(apos.endLine==cpos.line)=true:=by rfl)
  (b:aac [.Call (.Attribute o "items" apos) [] [] cpos] X.env=[(false,eval (.Call (.Attribute o "items" apos) [] [] cpos) X.env)]:=by rfl):EE X (.Call (.Name "sorted" p0) [.Call (.Attribute o "items" apos) [] [] cpos] [] pos) (DM w):=⟨Ca e c ho.h d f h a b⟩
end
end L2
namespace K
open PySem L2 M7
variable{p q:Pt}{α:Type}{a b:Pt×Int}{enc:Pt×Int->dL}{h:Hall}
noncomputable def lexN:List Nat->List Nat->Bool
 |x::xs,y::ys=>if x=y then lexN xs ys else decide (x<y)
 |_,_=>false
noncomputable def ltP(p q:Pt):Bool:=if p.1=q.1 then decide (p.2<q.2)else lexN p.1 q.1
theorem uB:∀a:List Nat,lexN a a=false
 |[]=>rfl
 |x::xs=>by show(if x=x then lexN xs xs else _)=false;rw[if_pos rfl];exact uB xs
theorem yM:∀{a b c:List Nat},a.length=b.length->b.length=c.length->lexN a b=true->lexN b c=true->lexN a c=true
 |[],[],_,_,_,h,_=>by cases h
 | x::a,y::b,z::c,h1,h2,h,h'=>by
  have f:(if x=y then lexN a b else decide _)=true:=h;have d:(if y=z then lexN b c else decide _)=true:=h';show(if x=z then lexN a c else decide _)=true
  by_cases g:x=y
  .subst g;rw[if_pos rfl]at f
   by_cases e:x=z
   .rw[if_pos e]at d⊢;exact yM (by simpa using h1) (by simpa using h2) f d
   .rw[if_neg e]at d⊢;exact d
  .grind
theorem uH:∀{a b:List Nat},a.length=b.length->a≠b->lexN a b=true\/lexN b a=true
 |[],[],_,h=>(h rfl).elim
 | x::a,y::b,hl,h=>by
  show(if x=y then lexN a b else decide _)=true\/(if y=x then lexN b a else decide _)=true
  by_cases e:x=y
  .subst e;rw[if_pos rfl,if_pos rfl];exact uH (by simpa using hl) λz=>h (by rw[z])
  .rw[if_neg e,if_neg (abf e)];rcases ad8 e with z|z
   .exact .inl (decide_eq_true z)
   .exact .inr (decide_eq_true z)
theorem Fi{r:Pt}(g:p.1.length=q.1.length)(f:q.1.length=r.1.length)(a:ltP p q=true)(b:ltP q r=true):ltP p r=true:=by
 unfold ltP at *
 by_cases c:p.1=q.1
 .rw[if_pos c]at a;rw[c]
  by_cases e:q.1=r.1
  .grind
  .rw[if_neg e]at b⊢;exact b
 .rw[if_neg c]at a
  by_cases e:q.1=r.1
  .rw[<-e,if_neg c];exact a
  .rw[if_neg e]at b;have t:=yM g f a b
   by_cases d:p.1=r.1
   .rw[d,uB]at t;cases t
   .rw[if_neg d];exact t
def GC(c:p.1.length=q.1.length)(h:p≠q):ltP p q=true\/ltP q p=true:=by
 unfold ltP
 by_cases e:p.1=q.1
 .rw[if_pos e,if_pos e.symm];have:=λz=>h (Prod.ext e z);rcases ad8 this with z|z
  .exact .inl (decide_eq_true z)
  .exact .inr (decide_eq_true z)
 .rw[if_neg e,if_neg (abf e)];exact uH c e
theorem nU(p:Pt):ltP p p=false:=by unfold ltP;simp_all
theorem yU:∀{a b:List Nat},a.length=b.length->ltDs (natD a) (natD b)=lexN a b
 |[],[],_=>rfl
 |x::a,y::b,h=>by
  show(if aah _ _=true then ltDs (natD a) (natD b)else decide _)=if x=y then lexN a b else decide _;rw[ca,yU (by simpa using h)];simp
theorem x9(h:p.1.length=q.1.length):ltD (ptD p) (ptD q)=ltP p q:=by
 show(if aah _ _=true then(if aah _ _=true then ltDs [] []else decide _)else ltDs _ _)=_;rw[zt,ca,yU h];unfold ltP
 by_cases e:p.1=q.1
 .rw[if_pos e,if_pos (decide_eq_true e)]
  by_cases c:p.2=q.2
  .rw[if_pos (decide_eq_true c)];exact(decide_eq_false (by omega)).symm
  .simp_all
 .simp_all
noncomputable def itD(f:Int->dL)(p:Pt×Int):dL:=.tuple [ptD p.1,f p.2]
def Ox{f:Int->dL}{p q:Pt×Int}(h:p.1.1.length=q.1.1.length)(c:p.1≠q.1):ltD (itD f p) (itD f q)=ltP p.1 q.1:=by
 show(if aah _ _=true then _ else ltD _ _)=_;rw[jU,if_neg (by rw[decide_eq_false c];decide),x9 h]
theorem qx{α:Type}{lt:α->α->Bool}(irr:∀a,lt a a=false):∀{l m:List α},l.Perm m->l.Pairwise (λa b=>lt a b=true)->m.Pairwise (λa b=>lt a b=true)->(∀a∈l,∀b∈l,lt a b=true->lt b a=false)->l=m
 |[],m,p,_,_,_=>p.nil_eq
 | a::l,m,p,h1,h2,asy=>by
  cases m with
  |nil=>exact(ac9 _ p.length_eq.symm).elim
  | cons b m=>
   have d:=afr.mp h1;have c:=afr.mp h2;have e:a=b:=by
    have hb:=p.mem_iff.mpr Io;have ha:=p.mem_iff.mp Io;rcases aam.mp hb with z|z
    .exact z.symm
    .rcases aam.mp ha with y|y
     .exact y
     .have l1:=d.1 b z;have f:=c.1 a y;rw[asy a Io b hb l1]at f
      grind
   subst e;rw[qx irr (List.Perm.cons_inv p) d.2 c.2 λx g y i=>asy x (Ge _ g) y (Ge _ i)]
theorem qj{β:Type}{f:α->β}{z l:List β}(p:z.Perm l):∀{m:List α},z=m.map f->∃g:List α,g.Perm m/\l=g.map f:=by
 induction p with
 |nil=>intro m e;exact⟨m,.refl _,e⟩
 | cons a p k=>
  intro m e
  cases m with
  |nil=>cases e
  |cons b m=>
   injection e with d c
   let⟨g,n,s⟩:=k c;exact⟨b::g,n.cons b,by rw[aar,d,s]⟩
 | swap a b l=>
  intro m e
  cases m with
  |nil=>cases e
  | cons x m=>
   cases m with
   |nil=>cases e
   |cons y m=>
    injection e with d c
    injection c with c e3
    exact⟨y::x::m,.swap _ _ _,by rw[aar,aar,d,c,e3]⟩
 |trans u t i j=>
  intro m e;let⟨m1,r,d⟩:=i e;let⟨m2,o,c⟩:=j d;exact⟨m2,o.trans r,c⟩
noncomputable def jB(D:Int)(W:List (Pt×Int)):dL:=.tuple (W.map λq=>.tuple [ptD q.1,nf q.2 D])
structure Srd(W W':List (Pt×Int)):Prop where
 p:W'.Perm W
 o:W'.Pairwise λa b=>ltP a.1 b.1=true
structure WOk(h:Hall)(r:Rule)(W:List (Pt×Int)):Prop where
 st:∀p∈W,St h r p.1.1 p.1.2
 kd:(W.map (·.1)).Nodup
 n:W.length<10001
 v:∀p∈W,p.2.natAbs<10^76
section
variable {h:Hall}{r:Rule}{W:List (Pt×Int)}
def WOk.ln(X:WOk h r W)(ha:a∈W)(hb:b∈W):a.1.1.length=b.1.1.length:=((X.st a ha).ln.1).trans ((X.st b hb).ln.1).symm
theorem FQ{i j:Nat}(nd:(W.map (·.1)).Nodup)(c:W[i]?=some a)(d:W[j]?=some b)(h:i≠j):a.1≠b.1:=by
 have key:∀{i j:Nat}{a b:Pt×Int},W[i]?=some a->W[j]?=some b->i<j->a.1≠b.1:=λ{i j a b} c d f=>by
  let⟨k,g⟩:=DL.mp c;let⟨l,eb⟩:=DL.mp d;have:=aaU.mp nd i j (by simp_all) (by simp_all) f
  simp_all
 rcases ad8 h with z|z
 .exact key c d z
 .exact λe=>key d c z e.symm
theorem ua(nd:(W.map (·.1)).Nodup)(ha:a∈W)(hb:b∈W)(e:a.1=b.1):a=b:=by
 let⟨i,d⟩:=acZ ha;let⟨j,f⟩:∃j,W[j]?=some b:=acZ hb
 by_cases c:i=j
 .simp_all
 .exact(FQ nd d f c e).elim
theorem Srd.uniq{A B:List (Pt×Int)}(X:WOk h r W)(a:Srd W A)(b:Srd W B):A=B:=
 qx (lt:=λa b=>ltP a.1 b.1) (λa=>nU _) (a.p.trans b.p.symm) a.o b.o λx d y f l=>by
  have m:=a.p.mem_iff.mp d;have c:=a.p.mem_iff.mp f
  cases e:ltP y.1 x.1 with
  |false=>rfl
  |true=>
   have t:=Fi (X.ln m c) (X.ln c m) l e;rw[nU]at t;cases t
structure EncP(W:List (Pt×Int))(enc:Pt×Int->dL):Prop where
 lt:∀a∈W,∀b∈W,a.1≠b.1->ltD (enc a) (enc b)=ltP a.1 b.1
 ir:∀a,ltD (enc a) (enc a)=false
 sm:∀a∈W,∀b∈W,smD (enc a) (enc b)=true
 tt:∀a,tt1 (enc a)=true
 dp:∀a∈W,(enc a).depth≤7
theorem EncP.srt(X:WOk h r W)(E:EncP W enc):SrtT (W.map enc):=by
 have get:∀i,i<W.length->∃a,W[i]?=some a/\a∈W/\(W.map enc).getD i .none=enc a:=λi w=>by
  have e:=iO w;exact⟨_,e,oR e,bh (by rw[GE,e];rfl)⟩
 refine⟨⟨by rw[gE];have:=X.n;omega,λx f y B=>?_,λx f=>?_,λx f=>?_⟩,⟨λa b c ha hb u=>?_,λa b ha hb ne=>?_⟩⟩
 .obtain⟨a,ha,rfl⟩:=aae.mp f;let⟨b,hb,rfl⟩:∃b,b∈W/\enc b=y:=aae.mp B;exact E.sm a ha b hb
 .obtain⟨a,ha,rfl⟩:=aae.mp f;exact E.tt a
 .obtain⟨a,ha,rfl⟩:=aae.mp f;exact E.dp a ha
 .rw[gE]at ha hb u;let⟨x,ex,d,o⟩:=get a ha;let⟨y,s,m,k⟩:=get b hb;let⟨z,C,g,v⟩:=get c u;rw[o,k,v];intro j l;have n1:x.1≠y.1:=λe=>by rw[ua X.kd d m e,E.ir]at j;cases j
  have n2:y.1≠z.1:=λe=>by rw[ua X.kd m g e,E.ir]at l;cases l
  rw[E.lt x d y m n1]at j;rw[E.lt y m z g n2]at l;have t:=Fi (X.ln d m) (X.ln m g) j l;have A:x.1≠z.1:=λe=>by rw[e,nU]at t;cases t
  rw[E.lt x d z g A];exact t
 .rw[gE]at ha hb;let⟨x,ex,d,o⟩:=get a ha;let⟨y,s,m,k⟩:=get b hb;rw[o,k];have n:=FQ X.kd ex s ne;rw[E.lt x d y m n,E.lt y m x d (abf n)];exact GC (X.ln d m) n
def EncP.srd(X:WOk h r W)(E:EncP W enc){ds':List dL}(p:ds'.Perm (W.map enc))(o:ds'.Pairwise λa b=>ltD a b=true):∃c,Srd W c/\ds'=c.map enc:=by
 let⟨c,d,e⟩:=qj p.symm rfl;refine⟨c,⟨d,?_⟩,e⟩;rw[e]at o;refine(List.pairwise_map.mp o).imp_of_mem λ{a b} ha hb l=>?_;have ma:=d.mem_iff.mp ha;have mb:=d.mem_iff.mp hb;have n:a.1≠b.1:=λe=>by rw[ua X.kd ma mb e,E.ir]at l;cases l
 rwa[E.lt a ma b mb n]at l
theorem xT:∀{a b:List Nat},a.length=b.length->smDs (natD a) (natD b)=true
 |[],[],_=>rfl
 |x::a,y::b,e=>by
  show(true&&smDs (natD a) (natD b))=true;rw[xT (by simpa using e)];rfl
def OO(e:p.1.length=q.1.length):smD (ptD p) (ptD q)=true:=by
 show(smDs _ _&&(true&&true))=true;rw[xT e];rfl
def se{l:List Nat}{t:Nat}(ho:h.Ok)(S:St h r l t):Fine 200 2 (stD l t):=by
 have n4:=ho.n4;have g:=S.ln.1;have ts:=S.ts;refine(bj (n:=63) (k:=1) (λd hd=>?_) (Ad 2)).mono (by decide) (by decide);rcases aam.mp hd with e|e
 .rw[e];exact pg (c:=4) (by omega) λx f=>by
   have:=S.ln.le ho x f;omega
 .rw[aab.mp e];exact(ik (by omega)).mono (by decide) (by decide)
theorem LG(ho:h.Ok)(X:WOk h r W):EncP W λp=>ptD p.1:=
 ⟨λa ha b hb _=>x9 (X.ln ha hb),λa=>by rw[x9 rfl];exact nU _,λa ha b hb=>OO (X.ln ha hb),λa=>rfl,λa ha=>aak (se ho (X.st a ha)).dp (by decide)⟩
theorem P7(ho:h.Ok)(X:WOk h r W):EncP W (itD .int):=by
 refine⟨λa ha b hb n=>Ox (X.ln ha hb) n,λa=>?_,λa ha b hb=>?_,λa=>rfl,λa ha=>?_⟩
 .show(if aah (ptD a.1) _=true then(if aah (.int a.2) _=true then false else decide _)else _)=false;rw[jU,if_pos (decide_eq_true rfl),decide_eq_false (Int.lt_irrefl a.2)]
  split<;>rfl
 .show(smD _ (ptD b.1)&&_)=true;rw[OO (X.ln ha hb)];rfl
 .refine aak (bj (n:=200) (k:=2) (c:=2) (ds:=[ptD a.1,.int a.2]) (λd hd=>?_) (Ad 2)).dp (by decide);rcases aam.mp hd with e|e
  .rw[e];exact se ho (X.st a ha)
  .rw[aab.mp e];exact(k8 (aaA (X.v a ha) (by decide))).mono (by decide) (by decide)
def Bc(W:List (Pt×Int)):cw (kvA ptD W)=W.map (itD .int):=by
 unfold cw kvA itD;rw[abc];rfl
def Ig(D:Int)(W:List (Pt×Int)):pc (shD D W)=W.map λp=>ptD p.1:=by
 unfold pc shD kvG;rw[abc];rfl
theorem pH{D:Int}(ho:h.Ok)(X:WOk h r W){f:List (Pt×Int)}(s:Srd W f)(h0:0<D)(g:D.natAbs<10^76):Fine 7000000 4 (jB D f):=by
 have n:=X.n;have e:=s.p.length_eq;refine Fine.mono (n':=7000000) (k':=4) (bj (n:=607) (k:=3) (c:=10001) (ds:=f.map λq=>.tuple [ptD q.1,nf q.2 D]) (λd hd=>?_) (by rw[gE];omega)) (by decide) (by decide);let⟨q,i,rfl⟩:∃q,q∈f/\_=d:=aae.mp hd;have m:=s.p.mem_iff.mp i;refine Fine.mono (n':=607) (k':=3) (bj (n:=300) (k:=2) (c:=2) (ds:=[ptD q.1,nf q.2 D]) (λd hd=>?_) (Ad 2)) (by decide) (by decide);rcases aam.mp hd with e|e
 .rw[e];exact(se ho (X.st q m)).mono (by decide) (by decide)
 .rw[aab.mp e];exact(FZ h0 (X.v q m) g).mono (by decide) (by decide)
end
noncomputable def D5:SpM:=λas K=>∃(h:Hall) (r:Rule) (W:List (Pt×Int)) (D:Nat),as=[.imm (wtD W),.imm (.int (D:Int))]/\h.Ok/\WOk h r W/\0<D/\D<10^76/\∀c,Srd W c->K (.imm (jB (D:Int) c)) []
noncomputable def zP:SpM:=λas K=>∃(h:Hall) (r:Rule) (W:List (Pt×Int)) (D:Int),as=[.imm (.dict (shD D W))]/\h.Ok/\WOk h r W/\∀c,Srd W c->K (.imm (jB D c)) []
noncomputable def sumF{α:Type}(f:α->Int)(L:List (α×Int)):Int:=(L.map λp=>p.2*f p.1).sum
def jJ(f:α->Int):sumF f []=0:=rfl
def bJ(f:α->Int)(p:α×Int)(L:List (α×Int)):sumF f (p::L)=p.2*f p.1+sumF f L:=by unfold sumF;rw[aar,aco]
theorem pJ{α:Type}[DecidableEq α](f:α->Int)(a:α)(x:Int):∀L:List (α×Int),sumF f (addA a x L)=sumF f L+x*f a
 |[]=>by show x*f a+0=0+x*f a;omega
 |p::r=>by
  show sumF f (if p.1=a then(p.1,p.2+x)::r else p::addA a x r)=_
  by_cases c:p.1=a
  .rw[if_pos c,bJ,bJ];show(p.2+x)*f p.1+_=_;rw[aeY,c];omega
  .rw[if_neg c,bJ,bJ,pJ f a x r];omega
theorem Ae(f:α->Int){L M:List (α×Int)}(p:L.Perm M):sumF f L=sumF f M:=by
 induction p with
 |nil=>rfl
 |cons a p d=>rw[bJ,bJ,d]
 |swap a b l=>rw[bJ,bJ,bJ,bJ];omega
 |trans p q i c=>exact i.trans c
theorem nW{α:Type}[DecidableEq α](a:α):∀{L:List (α×Int)},(L.map (·.1)).Nodup->sumF (λb=>if b=a then 1 else 0) L=getA a L
 |[],_=>rfl
 | p::r,nd=>by
  rw[aar,aaR]at nd;rw[bJ,nW a nd.2];show _=if p.1=a then p.2 else getA a r
  by_cases c:p.1=a
  .rw[if_pos c,if_pos c,aeS];have:getA a r=0:=by
    have key:∀{r:List (α×Int)},(∀q∈r,q.1≠a)->getA a r=0:=by
     intro r
     induction r with
     |nil=>intro _;rfl
     |cons q r i=>
      intro d;show(if q.1=a then q.2 else getA a r)=0;rw[if_neg (d q Io)];exact i λz e=>d z (Ge _ e)
    exact key λq d z=>nd.1 (by rw[c,<-z];exact aae.mpr ⟨q,d,rfl⟩)
   omega
  .rw[if_neg c,if_neg c,ahJ,aen]
noncomputable def nxt(h:Hall)(r:Rule)(p:Pt)(m:Mv):Pt:=((cK h r p.1 p.2 m).1,(cK h r p.1 p.2 m).2.1)
noncomputable def JE(h:Hall)(r:Rule)(f:Pt->Int)(p:Pt):Int:=sumF (λm=>f (nxt h r p m)) (msL h)
theorem uU(h:Hall)(r:Rule)(f:Pt->Int)(p:Pt)(w:Int):∀(M:Ms) (x:List (Pt×Int)×List (Wd×Int)),sumF f (M.foldl (λx q=>goW1 h r p w q x) x).1=sumF f x.1+w*sumF (λm=>f (nxt h r p m)) M
 |[],x=>by rw[jJ,ahJ,ags];rfl
 |q::M,x=>by
  rw[acA,uU h r f p w M,bJ,Int.mul_add];show sumF f (addA (nxt h r p q.1) (w*q.2) x.1)+_=_;rw[pJ,abp];omega
theorem sk(h:Hall)(r:Rule)(f:Pt->Int):∀(W:List (Pt×Int)) (x:List (Pt×Int)×List (Wd×Int)),sumF f (W.foldl (goW h r (msL h)) x).1=sumF f x.1+sumF (JE h r f) W
 |[],x=>by rw[jJ,ags];rfl
 |p::W,x=>by
  rw[acA,sk h r f W,bJ];show sumF f ((msL h).foldl (λx q=>goW1 h r p.1 p.2 q x) x).1+_=_;rw[uU];show _+p.2*JE h r f p.1+_=_;omega
def G9(h:Hall)(r:Rule)(f:Pt->Int)(k:Nat):sumF f (stW h r (k+1))=sumF (JE h r f) (stW h r k):=by
 show sumF f ((stW h r k).foldl (goW h r (msL h)) ([],[])).1=_;rw[sk,jJ,aen]
theorem ul{α:Type}[DecidableEq α]{a:α}{x:Int}(f:0<x):∀{L:List (α×Int)},(∀p∈L,0<p.2)->∀p∈addA a x L,0<p.2
 |[],_,p,hp=>by rw[aab.mp hp];exact f
 | q::r,h,p,hp=>by
  have g:=h q Io;have d:p∈(if q.1=a then(q.1,q.2+x)::r else q::addA a x r):=hp
  by_cases c:q.1=a
  .rw[if_pos c]at d;rcases aam.mp d with e|e
   .rw[e];show 0<q.2+x;omega
   .exact h p (Ge _ e)
  .rw[if_neg c]at d;rcases aam.mp d with e|e
   .rw[e];exact g
   .exact ul f (λz i=>h z (Ge _ i)) p e
theorem mL{α:Type}[DecidableEq α]:∀{L:List (α×Int)}{p:α×Int},(L.map (·.1)).Nodup->p∈L->getA p.1 L=p.2
 |q::L,p,nd,hp=>by
  rw[aar,aaR]at nd;show(if q.1=p.1 then q.2 else getA p.1 L)=p.2;rcases aam.mp hp with e|e
  .rw[e,if_pos rfl]
  .rw[if_neg (λz=>nd.1 (by rw[z];exact aae.mpr ⟨p,e,rfl⟩))];exact mL nd.2 e
theorem mF{α:Type}[DecidableEq α]{a:α}:∀{L:List (α×Int)},getA a L≠0->(a,getA a L)∈L
 |[],h=>(h rfl).elim
 |q::L,h=>by
  have d:(if q.1=a then q.2 else getA a L)≠0:=h;show(a,if q.1=a then q.2 else getA a L)∈_
  by_cases c:q.1=a
  .rw[if_pos c,<-c];exact Io
  .rw[if_neg c]at d⊢;exact Ge _ (mF d)
theorem fm{α:Type}:∀{L:List (α×Int)},(L.map (·.1)).Nodup->L.Nodup
 |[],_=>adC
 |q::L,nd=>by
  rw[aar,aaR]at nd;exact aaR.mpr ⟨λz=>nd.1 (aae.mpr ⟨q,z,rfl⟩),fm nd.2⟩
def Cz[DecidableEq α]{L M:List (α×Int)}(n1:(L.map (·.1)).Nodup)(n2:(M.map (·.1)).Nodup)(d:∀p∈L,0<p.2)(c:∀p∈M,0<p.2)(e:∀a,getA a L=getA a M):L.Perm M:=by
 refine(List.perm_ext_iff_of_nodup (fm n1) (fm n2)).mpr λp=>⟨λhp=>?_,λhp=>?_⟩
 .have g:=mL n1 hp;have:=d p hp;have m:=mF (a:=p.1) (L:=M) (by rw[<-e,g];omega);rw[<-e,g]at m;exact m
 .have g:=mL n2 hp;have:=c p hp;have m:=mF (a:=p.1) (L:=L) (by rw[e,g];omega);rw[e,g]at m;exact m
theorem FX{t b:Int}(d:0<t)(hb:0<b):0<(nfP t b).1:=by
 have c:=cc (t:=t) hb;have q:=(gC (t:=t) hb).1;have m:0<(nfP t b).1*b:=by rw[c];exact abm d q
 exact Int.pos_of_mul_pos_left m hb
theorem Ci(ho:h.Ok){z:Mv×Int×Nat}(d:z∈shrM h):0<z.2.1:=by
 have a1:=ho.a1;have b1:=ho.b1;unfold shrM at d;rcases aaO.mp d with d|d
 .rcases aaO.mp d with d|d
  .obtain⟨o,ho',rfl⟩:=aae.mp d;have e:=dG h.ss.length ho.n4;exact FX (by omega) (abm (by omega) (by omega))
  .obtain⟨q,hq,rfl⟩:=aae.mp d;have m:=List.fst_mem_of_mem_zipIdx hq;have:=(ho.ok q.1 m).a1;show(0:Int)<(q.1.a:Int);omega
 .by_cases c:0<(restF h h.ss.length).1
  .rw[if_pos c]at d;rw[aab.mp d];exact c
  .rw[if_neg c]at d;cases d
def FI(ho:h.Ok):∀q∈msL h,0<q.2:=λq f=>by
 let⟨z,e,rfl⟩:=aae.mp f;have c:(z.1.d,z.2)∈shrL h:=by rw[jo];exact aae.mpr ⟨z,e,rfl⟩
 have d:=(jq ho).d _ c;have g:z.2.2 ∣ botH h:=iq c;have b1:1≤z.2.2:=d.1;have k:0<botH h/z.2.2:=agQ (ad0 (ko ho) g) b1;refine abm ?_ (by omega);exact Ci ho e
theorem tz{h:Hall}{r:Rule}{p:Pt}{w:Int}(c:0<w):∀{M:Ms}{x:List (Pt×Int)×List (Wd×Int)},(∀q∈M,0<q.2)->(∀z∈x.1,0<z.2)->∀z∈(M.foldl (λx q=>goW1 h r p w q x) x).1,0<z.2
 |[],x,_,hx=>hx
 |q::M,x,hM,hx=>tz c (M:=M) (λz d=>hM z (Ge _ d)) (ul (abm c (hM q Io)) hx)
theorem xN{h:Hall}(ho:h.Ok)(r:Rule):∀n,∀p∈stW h r n,0<p.2
 |0,p,hp=>by rw[aab.mp hp];show(0:Int)<1;decide
 | n+1,p,hp=>by
  have key:∀{W:List (Pt×Int)}{x:List (Pt×Int)×List (Wd×Int)},(∀z∈W,0<z.2)->(∀z∈x.1,0<z.2)->∀z∈(W.foldl (goW h r (msL h)) x).1,0<z.2:=by
   intro W
   induction W with
   |nil=>intro x _ c;exact c
   |cons q W i=>
    intro x e c;exact i (λz d=>e z (Ge _ d)) (tz (e q Io) (FI ho) c)
  exact key (xN ho r n) (λ_ d=>by cases d) p hp
noncomputable def y7:SpM:=λas K=>∃(h:Hall) (r:Rule) (n:Nat),as=[.imm h.d,.imm r.d,.imm (.int (n:Int))]/\DuOk h r n/\WOk h r (stW h r n)/\∀W,Srd (stW h r n) W->K (.imm (jB ((botH h^n:Nat):Int) W)) []
theorem Cg{r:Rule}(ho:h.Ok){S:List (Pt×Int)}(kd:(S.map (·.1)).Nodup)(st:∀z∈S,St h r z.1.1 z.1.2):S.length≤10000:=by
 have:=k6 kd (m:=(M3.allR h.rs).flatMap λl=>(aaw 4).map λt=>(l,t)) λy c=>by
  let⟨p,hp,rfl⟩:=aae.mp c;exact abB.mpr ⟨p.1.1,m6 (st p hp).ln.fits,aae.mpr ⟨p.1.2,agI.mpr (st p hp).ts,rfl⟩⟩
 rw[gE]at this;have e:∀A:List (List Nat),(A.flatMap λl=>(aaw 4).map λt=>(l,t)).length=A.length*4:=λA=>by
  induction A with
  |nil=>rfl
  |cons a A i=>rw[List.flatMap_cons,aaj,i,gE,aaW,aaG,afi,Nat.add_comm]
 rw[e]at this;have:=gg (rs:=h.rs) (by rw[Hall.rsl];exact ho.n4) λx d=>by
  let⟨s,hs,rfl⟩:=aae.mp d;exact(ho.ok s hs).r6
 omega
end K
namespace K
open PySem L2
variable{n:Nat}{l:ah0}
local macro_rules | `(tactic| walk_at"1") => `(tactic| first
 |((with_reducible refine' Ji ?xe ?_);(case xe=>rfl))|(with_reducible first        |apply KM|apply Ng|apply x_lt|apply x_le|apply x_gt|apply x_ge     |apply Qi|apply Qx|apply QM|apply RH )|((with_reducible refine' x_nd ?xe ?_);(case xe=>first|rfl|assumption))  |(with_reducible first   |apply x_ts)
 |((with_reducible refine' aE ?xe ?_);(case xe=>rfl))|((with_reducible refine' ml ?xf ?xe ?_);(case xf=>rfl);(case xe=>rfl))|((with_reducible refine' t3 ?xe ?_);(case xe=>rfl))|((with_reducible refine' fZ ?xe ?_);(case xe=>rfl))
 |((with_reducible refine' Gn ?xe ?_);(case xe=>omega))|((with_reducible refine' iG ?xe ?_);(case xe=>exact cfd (by omega) (by omega)))|((with_reducible refine' b9 ?xe ?_);(case xe=>exact Qj (by omega)))|((with_reducible refine' Qz ?xe ?_);(case xe=>exact⟨by decide,by decide,by decide⟩))
 |(with_reducible first  |apply cB|apply x_bindO    )|((with_reducible refine' Su ?xe ?xf ?_);(case xe=>rfl);(case xf=>rfl))
 |with_reducible apply LQ|((with_reducible refine' QY ?xe ?xf ?_);(case xe=>rfl);(case xf=>decide))
 |((with_reducible refine' QJ ?xe ?xf ?_);(case xe=>rfl);(case xf=>exact of_decide_eq_true rfl))|(with_reducible first       |apply x_pNil|apply x_pCons|apply Bh|apply x_bindA)|((with_reducible refine' x_dgot ?xa ?xb ?xc ?xd ?xe ?_);(case xa=>rfl);(case xb=>rfl);(case xc=>rfl);(case xd=>rfl);(case xe=>rfl))|((with_reducible refine' x_dgotN ?xa ?xb ?xc ?xd ?xe ?_);(case xa=>rfl);(case xb=>rfl);(case xc=>rfl);(case xd=>rfl);(case xe=>rfl))|((with_reducible refine' x_dputs ?xa ?xb ?xc ?xd ?xe ?xf ?_);(case xa=>rfl);(case xb=>rfl);(case xc=>rfl);(case xd=>rfl);(case xe=>exact of_decide_eq_true rfl);(case xf=>rfl))|((with_reducible refine' x_onPairs ?xa ?xb ?xc ?xd ?_);(case xa=>rfl);(case xb=>rfl);(case xc=>exact of_decide_eq_true rfl);(case xd=>rfl))
 |((with_reducible refine' x_agsX ?xe ?xf ?_);(case xe=>rfl);(case xf=>decide))  |((with_reducible refine' x_rz ?xe ?_);(case xe=>exact of_decide_eq_true rfl))
 |((with_reducible refine' x_onAgs ?xa ?xb ?_);(case xa=>rfl);(case xb=>decide))|(with_reducible first    |apply x_fsC|apply x_fsN|apply x_trI|apply x_trN|apply x_trT    )|((with_reducible refine' x_fgot ?xa ?xb ?xc ?xd ?xe ?_);(case xa=>rfl);(case xb=>rfl);(case xc=>rfl);(case xd=>rfl);(case xe=>rfl))|((with_reducible refine' x_fgotN ?xa ?xb ?xc ?xd ?xe ?_);(case xa=>rfl);(case xb=>rfl);(case xc=>rfl);(case xd=>rfl);(case xe=>rfl))  |((with_reducible refine' x_insR ?xa ?xb ?xc ?_);(case xa=>rfl);(case xb=>rfl);(case xc=>rfl))  |((with_reducible refine' x_onImms ?xa ?_);(case xa=>rfl))  |((with_reducible refine' x_onPairsT ?xa ?xb ?xc ?_);(case xa=>rfl);(case xb=>rfl);(case xc=>exact of_decide_eq_true rfl))
 |(with_reducible first  |apply Sx     |apply L4|apply KU)|((with_reducible refine' OL ?xe ?_);(case xe=>rfl))|(with_reducible first|apply PH  |apply Qq    )|((with_reducible refine' x_ls ?xe ?_);(case xe=>rfl))
 |(with_reducible first|apply x_isN|apply x_isB|apply AG  |apply L8  |apply Ll)
 |((with_reducible refine' JH ?xe ?_);(case xe=>rfl))|with_reducible apply Kw|((with_reducible refine' x_list ?xe ?_);(case xe=>rfl))|((with_reducible refine' Gq ?xe ?_);(case xe=>rfl))|(with_reducible first       |apply Ow|apply OA)|((with_reducible refine' Kj ?xe ?_);(case xe=>rfl))|(with_reducible first        |apply jW)|with_reducible apply gH)
local macro_rules | `(tactic| walk_at"s") => `(tactic| ((repeat walk_at"1"); try (with_reducible conv => whnf)))
local macro_rules | `(tactic| walk_at"n") => `(tactic| first | dsimp only [mapR, cu, List.set, MSt.setV, MSt.setN, List.take, List.length, List.append, ls, vt, Nat.reduceAdd, List.getD_cons_succ, List.getD_cons_zero, List.nil_append, List.cons_append, setT, lfD] | dsimp only [mapR, cu, List.set, MSt.setV, MSt.setN, List.take, List.length, List.append, ls, vt, Nat.reduceAdd, List.getD_cons_succ, List.getD_cons_zero, List.nil_append, List.cons_append] | skip)
local macro_rules | `(tactic| walk_at "sc") => `(tactic| exact ⟨rfl, rfl, rfl, by decide +kernel, rfl, by decide +kernel, by decide +kernel⟩)
local macro_rules | `(tactic| walk_at"x") => `(tactic| (walk_at"n"; walk_at"s"))
local macro_rules | `(tactic| walk_at "a") => `(tactic| (walk_at"s";refine aH (λz=>absurd z (by decide +kernel)) (λ_=>?_);walk_at"s";refine aH (λz=>absurd z (by decide +kernel)) (λ_=>?_);walk_at"s"))
local macro_rules | `(tactic| walk_at "b") => `(tactic| (refine aH (λz=>absurd z (by decide +kernel)) (λ_=>?_);walk_at"s";refine aH (λ_=>?_) (λz=>(z rfl).elim);walk_at"s"))
local macro_rules | `(tactic| walk_at "c") => `(tactic| (refine aH (λz=>absurd z (by decide +kernel)) (λ_=>?_)))
local macro_rules | `(tactic| walk_at "d") => `(tactic| (refine⟨by omega,by omega,?_⟩))
local macro_rules | `(tactic| walk_at "e") => `(tactic| (refine aH (λ_=>?_) (λz=>(z rfl).elim)))
local macro_rules | `(tactic| walk_at "f") => `(tactic| (walk_at"n";refine cB ?_))
local macro_rules | `(tactic| walk_at "g") => `(tactic| (refine cE ?_;walk_at"x"))
local macro_rules | `(tactic| walk_at "h") => `(tactic| (dsimp only[Srv.d];walk_at"s"))
noncomputable def top(i:Nat):Stmt:=PySem.Challenge.pw_shorterline_k27_what_turns_leave.main.body.getD i (.Pass ⟨0,0,0,0⟩)
noncomputable abbrev cF:Stmt:=top 4
noncomputable abbrev fU:Stmt:=top 5
noncomputable abbrev iM:Stmt:=top 6
noncomputable abbrev nG:Stmt:=top 7
noncomputable abbrev ng:Stmt:=top 8
noncomputable abbrev cG:Stmt:=top 9
noncomputable abbrev dh:Stmt:=top 12
noncomputable abbrev dt:Stmt:=top 14
noncomputable abbrev oX:Stmt:=top 15
noncomputable abbrev dg:Stmt:=top 16
noncomputable abbrev mI:Stmt:=top 17
noncomputable abbrev fG:Stmt:=top 19
noncomputable abbrev fg:Stmt:=top 20
noncomputable abbrev iK:Stmt:=top 21
noncomputable abbrev og:Stmt:=top 22
noncomputable abbrev mE:Stmt:=top 23
noncomputable abbrev gI:Stmt:=top 24
noncomputable abbrev nh:Stmt:=top 25
noncomputable abbrev fM:Stmt:=top 26
noncomputable abbrev nk:Stmt:=top 27
noncomputable abbrev jN:Stmt:=top 28
noncomputable abbrev dF:Stmt:=top 30
noncomputable abbrev dm:Stmt:=top 31
noncomputable abbrev dE:Stmt:=top 32
noncomputable abbrev d4:Stmt:=top 33
noncomputable abbrev i8:Stmt:=top 35
noncomputable abbrev iJ:Stmt:=top 36
noncomputable abbrev kj:Stmt:=top 37
noncomputable abbrev iI:Stmt:=top 38
noncomputable abbrev gW:Stmt:=top 39
noncomputable abbrev dn:Stmt:=top 40
noncomputable abbrev ga:Stmt:=top 41
noncomputable abbrev cr:Stmt:=top 43
noncomputable abbrev gn:Stmt:=top 42
noncomputable abbrev dI:Stmt:=top 44
noncomputable abbrev fw:Stmt:=top 45
noncomputable abbrev jh:Stmt:=top 46
noncomputable abbrev jf:Stmt:=top 47
noncomputable abbrev fJ:Stmt:=top 48
noncomputable abbrev gU:Stmt:=top 49
noncomputable abbrev fI:Stmt:=top 50
noncomputable abbrev fq:Stmt:=top 53
noncomputable abbrev jg:Stmt:=top 51
noncomputable abbrev cI:Stmt:=top 52
noncomputable abbrev j5:Stmt:=top 54
noncomputable abbrev slaw:Stmt:=top 55
structure Bl(K:LD)(mg:Str->Option lD):Prop where
 len:mg "len" = none
 abs:mg "abs" = none
 range:mg "range" = none
 list:mg "list" = none
 tuple:mg "tuple" = none
 int:mg "int" = none
 sum:mg "sum" = none
 zip:mg "zip" = none
 min:mg "min" = none
 max:mg "max" = none
 enumerate:mg "enumerate" = none
 repr:mg "repr" = none
 sorted:mg "sorted" = none
 c_WHOLE_TURN:ConM K mg "WHOLE_TURN" (.tuple (([1,1]:List Int).map .int))
def dQ:am ["one","other"] ["one","other"] (ac cF):=by ext sc
def fh:am ["top","bottom","divisor"] ["top","bottom"] (ac fU):=by ext sc
def sJ:am ["one","other"] ["one","other"] (ac iM):=by ext sc
def yW:am ["one","other"] ["one","other"] (ac nG):=by ext sc
def zU:am ["one","other"] ["one","other"] (ac ng):=by ext sc
def bU:am ["pairs","bottom","thing","fraction"] ["pairs"] (ac cG):=by ext sc
def bR:am ["hall","lines","place","many","server"] ["hall","lines"] (ac dh):=by ext sc
def cf:am ["lines","order","best","line"] ["lines","order"] (ac dt):=by ext sc
def kq:am ["hall","lines","line","top","bottom"] ["hall","lines","line"] (ac oX):=by ext sc
def bw:am ["hall","lines","order","best","least","line","wait"] ["hall","lines","order"] (ac dg):=by ext sc
def ic:am ["hall","rule","stand","order","lines","turn","word"] ["hall","rule","stand","order"] (ac mI):=by ext sc
def oI:am ["hall"] ["hall"] (ac fG):=by ext sc
def cJ:am ["hall","many","orders","place"] ["hall"] (ac fg):=by ext sc
def su:am ["lines","line","more"] ["lines","line","more"] (ac iK):=by ext sc
def yX:am ["hall","lines","line"] ["hall","lines","line"] (ac og):=by ext sc
def Af:am ["lines","line"] ["lines","line"] (ac mE):=by ext sc
def qI:am ["hall","lines"] ["hall","lines"] (ac gI):=by ext sc
def ix:am ["hall","lines","shift"] ["hall","lines"] (ac nh):=by ext sc
def m7:am ["hall","rule","turn"] ["hall","rule","turn"] (ac fM):=by ext sc
def yR:am ["hall","rule","stand","move"] ["hall","rule","stand","move"] (ac nk):=by ext sc
def bT:am ["hall","rule","stand","move","lines","turn","word","line"] ["hall","rule","stand","move"] (ac jN):=by ext sc
def aW:am ["hall","come","servers","moved","orders","each","shares","rest","line","server"] ["hall"] (ac dF):=by ext sc
def aI:am ["hall","rule","weights","moves","whole","stands","words","stand","weight","move","share","behind","word"] ["hall","rule","weights"] (ac dm):=by ext sc
def mi:am ["weights","whole"] ["weights","whole"] (ac dE):=by ext sc
def bg:am ["hall","rule","turns","weights","bottom","turn","words","whole"] ["hall","rule","turns"] (ac d4):=by ext sc
def t5:am ["_law_script"] ["_law_script"] (ac i8):=by ext sc
def cg:am ["_law_tape_here","_law_many","_law_found","_law_at","_law_cell","_law_mixed"] ["_law_tape_here","_law_many"] (ac iJ):=by ext sc
def iL:am ["_law_top","_law_bottom","_law_one","_law_other"] ["_law_top","_law_bottom"] (ac kj):=by ext sc
def sn:am ["_law_one","_law_other"] ["_law_one","_law_other"] (ac iI):=by ext sc
def p7:am ["_law_one","_law_other"] ["_law_one","_law_other"] (ac gW):=by ext sc
def dN:am ["_law_tape_here","_law_many","_law_most","_law_parts_here","_law_rest"] ["_law_tape_here","_law_many"] (ac dn):=by ext sc
def bF:am ["_law_tape_here","_law_menu","_law_rooms","_law_shares","_law_speeds","_law_slowest","_law_speed","_law_servers"] ["_law_tape_here","_law_menu"] (ac ga):=by ext sc
def bi:am ["_law_hall_here","_law_found","_law_speed","_law_room","_law_longer","_law_lines"] ["_law_hall_here"] (ac cr):=by ext sc
def k9:am ["_law_tape_here","_law_hall_here","_law_word"] ["_law_tape_here","_law_hall_here"] (ac gn):=by ext sc
def bX:am ["_law_many","_law_found","_law_turn","_law_longer","_law_order"] ["_law_many"] (ac dI):=by ext sc
def bA:am ["_law_hall_here","_law_lines","_law_order","_law_best","_law_k","_law_one","_law_other","_law_mine"] ["_law_hall_here","_law_lines","_law_order"] (ac fw):=by ext sc
def bV:am ["_law_hall_here","_law_rule_here","_law_stand","_law_order","_law_lines","_law_turn","_law_some","_law_best","_law_k"] ["_law_hall_here","_law_rule_here","_law_stand","_law_order"] (ac jh):=by ext sc
def rh:am ["_law_lines","_law_k","_law_many"] ["_law_lines","_law_k","_law_many"] (ac jf):=by ext sc
def fu:am ["_law_hall_here","_law_lines"] ["_law_hall_here","_law_lines"] (ac fJ):=by ext sc
def cN:am ["_law_hall_here","_law_rule_here","_law_stand","_law_order","_law_lines","_law_turn","_law_k"] ["_law_hall_here","_law_rule_here","_law_stand","_law_order"] (ac gU):=by ext sc
def aL:am ["_law_hall_here","_law_rule_here","_law_stand","_law_lines","_law_turn","_law_orders_here","_law_found","_law_order","_law_later","_law_word","_law_rest","_law_k","_law_speed","_law_less"] ["_law_hall_here","_law_rule_here","_law_stand"] (ac fI):=by ext sc
def qT:am ["_law_hall_here"] ["_law_hall_here"] (ac fq):=by ext sc
def ci:am ["_law_hall_here","_law_rule_here","_law_pairs","_law_found","_law_stand","_law_share","_law_later","_law_word","_law_part"] ["_law_hall_here","_law_rule_here","_law_pairs"] (ac jg):=by ext sc
def lh:am ["_law_shares"] ["_law_shares"] (ac cI):=by ext sc
def gh:am ["_law_hall_here","_law_rule_here","_law_turns","_law_shares","_law_turn"] ["_law_hall_here","_law_rule_here","_law_turns"] (ac j5):=by ext sc
def ij:am ["_law_script","_law_tape_here","_law_menu","_law_k","_law_hall_here","_law_rule_here","_law_turns","_law_before","_law_due_here","_law_again"] ["_law_script"] (ac slaw):=by ext sc
theorem zd{k:Nat}{ds:List dL}{g:WG}{w:WS}{D:d7}{m1:MSt}(P:Nat->MSt->Prop)(p0:P 0 (m1.setN (max m1.np (k+1))))(ok:∀i m,P i m->m.os[k]?=some ds)
  (step:∀(i:Nat) (d:dL) (m:MSt),ds[i]?=some d->m.np=max m1.np (k+1)->P i m->∀a:d7,(∀b,P (i+1) b->a.nx b)->g d m λm2=>w a m2)
  (fin:∀m,m.np=max m1.np (k+1)->P ds.length m->D.nx (m.setN m1.np)):lw ⟨ds,some k⟩ g w D m1:=je P p0 ok (λi d m e n p=>step i d m e n p _ λ_ z=>z) fin
noncomputable def menu27:List (List Nat):=[[1],[3],[1,1],[2,1],[1,2],[2,2],[3,2],[1,1,1],[1,2,1]]
def Am:Fj menu27:=by
 refine⟨by decide,by decide,?_⟩;decide
noncomputable def pF(mv:Bool):Hall:=⟨1,4,[⟨1,4,6⟩,⟨1,8,6⟩,⟨1,8,6⟩],mv⟩
def xZ(mv:Bool):(pF mv).Ok:=by
 refine⟨by show 1≤1;omega,by show 1<1000000;omega,by show 1≤4;omega,by show 4<1000000;omega,by show 1≤3;omega,by show 3≤4;omega,λs hs=>?_⟩;have:s=⟨1,4,6⟩\/s=⟨1,8,6⟩\/s=⟨1,8,6⟩:=by simpa[pF]using hs
 rcases this with rfl|rfl|rfl<;>exact⟨by decide,by decide,by decide,by decide,by decide,by decide⟩
def zH(mv:Bool):OfS (pF mv) 8:=by
 refine⟨by decide,by decide,by show 4 ∣ 8;decide,λs hs=>?_,?_⟩
 .have:s=⟨1,4,6⟩\/s=⟨1,8,6⟩\/s=⟨1,8,6⟩:=by simpa[pF]using hs
  rcases this with rfl|rfl|rfl
  .show 4 ∣ 8;decide
  .show 8 ∣ 8;decide
  .show 8 ∣ 8;decide
 .cases mv<;>decide +kernel
theorem DW{h:Hall}{r:Rule}(ho:h.Ok):∀{W:List (Pt×Int)}{x:List (Pt×Int)×List (Wd×Int)},(∀p∈W,0<p.2)->(∀z∈x.1,0<z.2)->∀z∈(W.foldl (goW h r (msL h)) x).1,0<z.2
 |[],x,_,hx=>hx
 |p::W,x,hW,hx=>DW ho (W:=W) (x:=goW h r (msL h) x p) (λz a=>hW z (Ge _ a)) (tz (hW p Io) (FI ho) hx)
def uA{h:Hall}{r:Rule}{i:Nat}(D:DuOk h r n)(hi:i≤n){S:List (Pt×Int)}(p:S.Perm (stW h r i)):WOk h r S:=by
 have st:∀z∈S,St h r z.1.1 z.1.2:=λz a=>mh D.ho D.hr i z (p.mem_iff.mp a);have kd:(S.map (·.1)).Nodup:=((p.map _).nodup_iff).mpr (oa i);refine⟨st,kd,Nat.lt_succ_of_le (Cg D.ho kd st),λz a=>?_⟩;have a:=p.mem_iff.mp a;have c:=qJ D.ho D.h0 r i z a;have b:=(gJ (qJ D.ho D.h0 r i)).2 z a;rw[me D.ho D.h0 r i]at b;have d:=D.pw hi;exact aaA (show z.2.natAbs<10^66 by omega) (by decide)
def zc{h:Hall}{r:Rule}(ho:h.Ok){b:List (Pt×Int)}(c:b.Perm (stW h r n)):(b.foldl (goW h r (msL h)) ([],[])).1.Perm (stW h r (n+1)):=by
 have k:=tj (h:=h) (r:=r) (W:=b) (x:=([],[])) (by simp);refine Cz k (oa _) (DW ho (λp hp=>xN ho r n p (c.mem_iff.mp hp)) λz d=>by cases d) (xN ho r _) λa=>?_;rw[<-nW a k,<-nW a (oa _),sk,G9,jJ,aen];exact Ae _ c
noncomputable def altR(m:List (List Nat)):List (List Nat):=m.flatMap λrs=>[rs,aai rs.length (rs.headD 0)]
def AH{S p0:Nat}{q rs:List Nat}{mv:Bool}(h:q.length=rs.length):(vO S p0 q rs mv).rs=rs:=by
 show(adK (srvS S) q rs).map Srv.r=rs;refine af1 (by rw[gE,ahc];omega) λi b a=>?_;rw[aeL,List.getElem_zipWith];rfl
noncomputable def wf:SpM:=λas K=>∃(fd:List dL) (c:Nat) (m:List (List Nat)),as=[.own fd,.imm (.list (m.map lnD))]/\Fj m/\TapeD c fd/\c<800000000/\∀(h:Hall) (S:Nat) (f:List dL),h.Ok->OfS h S->h.rs∈altR m->TapeD (c+20) f->K (.imm h.d) [f]
def Ay:∀rs∈altR menu27,rs.length≤3:=by decide
noncomputable def uL:SpM:=λas K=>∃(h:Hall) (r:Rule) (n:Nat) (W:List (Pt×Int)),as=[.imm h.d,.imm r.d,.imm (jB ((botH h^n:Nat):Int) W)]/\DuOk h r (n+1)/\W.Perm (stW h r n)/\∀S,S.Perm (stW h r (n+1))->K (.imm (.dict (shD ((botH h^(n+1):Nat):Int) S))) []
noncomputable def ze:SpM:=λas K=>∃(h:Hall) (r:Rule) (n:Nat),as=[.imm h.d,.imm r.d,.imm (.int (n:Int))]/\DuOk h r n/\∀W,Srd (stW h r n) W->K (.imm (jB ((botH h^n:Nat):Int) W)) []
section
variable {P:aaD}{w:World}{K:LD}{mg:Str->Option lD}{base:aaX}
theorem iE(T:Bl K mg)(D:DefM K mg "greatest_divisor" cF ["one","other"]):FnM P w K mg base "greatest_divisor" 1 2 GN:=by
 refine aP D dQ rfl (nN:=2) rfl (by decide) ?ar λe A outer s H E f hr=>⟨_,(mz' (ii (av (qW hr.units) (mv' 1) mh' (aG _)) (aa (j7 (i:=0) (j:=1) dQ.nd rfl rfl (by decide) rfl rfl (mc' (mv' 1) (mc' (ae cQ (mv' 0) (mv' 1)) mn')) rfl)) aau)
   (aa (ah (mv' 0)))),?_⟩
 case ar=>intro as g ⟨a,b,rfl,_⟩;rfl
 intro as g o ⟨a,b,rfl,k⟩;refine ai (MSt.mk [some (.imm (.int a)),some (.imm (.int b))] [] 0) rfl ?_;ext s;refine oy (λn m=>∃x y:Nat,m=MSt.mk [some (.imm (.int x)),some (.imm (.int y))] [] 0/\x.gcd y=a.gcd b/\n=y) b ⟨a,b,rfl,rfl,rfl⟩ ?_;intro n m q ⟨x,y,rfl,h,rfl⟩;ext s;refine aH (λc=>?_) (λp=>?_)
 .have hy:0<n:=by omega
  ext s;have d:=ahr x hy;exact⟨x%n,d,n,x%n,rfl,by rw[agu,<-Nat.gcd_rec,agu,h],rfl⟩
 .have hy0:n=0:=by omega
  subst hy0;rw[ahv]at h;ext s;rw[h];exact k
def mR(T:Bl K mg)(D:DefM K mg "fraction_of" fU ["top","bottom"])(G:FnM P w K mg base "greatest_divisor" 1 2 GN):FnM P w K mg base "fraction_of" 2 2 Bq:=by
 refine aP D fh rfl (nN:=3) rfl (by decide) ?ar λd A outer s H E f hr=>⟨_,(mz' (bc (av (bH hr.units) (mv' 1) mh' (aG _)) (aa AB) aw)
   (mz' (bc (av jk (mv' 1) mh' (aG _)) (aa (j7 (i:=0) (j:=1) fh.nd rfl rfl (by decide) rfl rfl (mc' (jX h7 (mv' 0)) (mc' (jX h7 (mv' 1)) mn')) rfl)) aw)
   (mz' (ak 2 fh.nd (mf' G (hr.mono (by decide)) (mc' (ap qi (by rfl) T.abs DH (mc' (mv' 0) mn')) (mc' (mv' 1) mn'))))
   (aa (ah (af (mc' (ae cY (mv' 0) (mv' 2)) (mc' (ae cY (mv' 1) (mv' 2)) mn')))))))),?_⟩
 case ar=>intro as e ⟨a,b,rfl,_⟩;rfl
 intro as e m ⟨t,b,rfl,hb,o,h,k⟩;refine ai (MSt.mk [some (.imm (.int t)),some (.imm (.int b)),none] [] 0) rfl ?_;have g:0<t.natAbs.gcd b.natAbs:=abC _ (by omega);have c:t.natAbs.gcd b.natAbs<10^160:=aao (af5 _ (by omega)) h;unfold nf nfP at k;ext s;refine aH (λz=>absurd z hb) (λ_=>?_);ext s;refine aH (λz=>?_) (λz=>?_)
 .rw[if_pos z]at k;ext s;refine⟨t.natAbs,b.natAbs,by rw[show(if -t<0 then - -t else -t)=(t.natAbs:Int) by split<;>omega,show -b=(b.natAbs:Int) by omega],?_⟩;ext f;ext x;refine iG (cfdB g c) ?_;ext s;refine iG (cfdB g c) ?_;ext s;exact k
 .rw[if_neg z]at k;ext s;refine⟨t.natAbs,b.natAbs,by rw[show(if t<0 then -t else t)=(t.natAbs:Int) by split<;>omega,show(b.natAbs:Int)=b by omega],?_⟩;ext f;ext x;refine iG (cfdB g c) ?_;ext s;refine iG (cfdB g c) ?_;ext s;exact k
theorem tw(T:Bl K mg)(D:DefM K mg "taken_off" iM ["one","other"])(G:FnM P w K mg base "fraction_of" 2 2 Bq):FnM P w K mg base "taken_off" 3 2 K8:=by
 refine aP D sJ rfl (nN:=2) rfl (by decide) ?ar λg A outer s H E f hr=>⟨_,(aa (ah (mf' G (hr.mono (by decide)) (mc' (ae sg (ae aA (ab (mv' 0) mh') (ab (mv' 1) mh')) (ae aA (ab (mv' 1) mh') (ab (mv' 0) mh'))) (mc' (ae aA (ab (mv' 0) mh') (ab (mv' 1) mh')) mn'))))),?_⟩
 case ar=>intro as i ⟨a,b,c,d,rfl,_⟩;rfl
 intro as i j ⟨a,b,c,d,rfl,e,h,k⟩;refine ai (MSt.mk [some (.imm (.tuple [.int a,.int b])),some (.imm (.tuple [.int c,.int d]))] [] 0) rfl ?_;ext s;refine b9 (df (up45 e.ha) (up45 h.hb)) ?_;ext s;refine b9 (df (up45 h.ha) (up45 e.hb)) ?_;ext s;refine b9 (df (up45 e.hb) (up45 h.hb)) ?_;ext s;refine⟨_,_,rfl,zo e.hp h.hp,P9 (fX e.ha h.hb) (fX h.ha e.hb),rL (fX e.hb h.hb),?_⟩;ext n;exact k
theorem xV(T:Bl K mg)(D:DefM K mg "divided" nG ["one","other"])(G:FnM P w K mg base "fraction_of" 2 2 Bq):FnM P w K mg base "divided" 3 2 Pq:=by
 refine aP D yW rfl (nN:=2) rfl (by decide) ?ar λg A outer s H E f hr=>⟨_,(aa (ah (mf' G (hr.mono (by decide)) (mc' (ae aA (ab (mv' 0) mh') (ab (mv' 1) mh')) (mc' (ae aA (ab (mv' 0) mh') (ab (mv' 1) mh')) mn'))))),?_⟩
 case ar=>intro as j ⟨a,b,c,d,rfl,_⟩;rfl
 intro as j m ⟨a,b,c,d,rfl,h,e,i,k⟩;refine ai (MSt.mk [some (.imm (.tuple [.int a,.int b])),some (.imm (.tuple [.int c,.int d]))] [] 0) rfl ?_;ext s;refine b9 (df (up45 h.ha) (up45 e.hb)) ?_;ext s;refine b9 (df (up45 h.hb) (up45 e.ha)) ?_;ext s;refine⟨_,_,rfl,Int.mul_ne_zero (Int.ne_of_gt h.hp) i,rL (fX h.ha e.hb),rL (fX h.hb e.ha),?_⟩;ext n;exact k
def yg(T:Bl K mg)(D:DefM K mg "is_less" ng ["one","other"]):FnM P w K mg base "is_less" 1 2 FE:=by
 refine aP D zU rfl (nN:=2) rfl (by decide) ?ar λg A outer s H E f hr=>⟨_,(aa (ah (jd jk (ae aA (ab (mv' 0) mh') (ab (mv' 1) mh')) (ae aA (ab (mv' 1) mh') (ab (mv' 0) mh')) (aG _)))),?_⟩
 case ar=>intro as h ⟨a,b,c,d,rfl,_⟩;rfl
 intro as h i ⟨a,b,c,d,rfl,ha,hb,j,hd,k⟩;refine ai (MSt.mk [some (.imm (.tuple [.int a,.int b])),some (.imm (.tuple [.int c,.int d]))] [] 0) rfl ?_;ext s;have e:decide ((a:Int)*(d:Int)<(c:Int)*(b:Int))=decide (a*d<c*b):=by
  rw[<-aap,<-aap];exact decide_eq_decide.mpr agv
 rw[e];exact k
theorem kW(T:Bl K mg)(D:DefM K mg "on_one_bottom" cG ["pairs"])(G:FnM P w K mg base "greatest_divisor" 1 2 GN):FnM P w K mg base "on_one_bottom" 2 1 uu:=by
 refine aP D bU rfl (nN:=4) rfl (by decide) ?ar λo A outer s H E f hr=>⟨_,(mz' (cP (i:=1) bU.nd rfl (ada rfl) mh')
   (mz' (bq (bC (mv' 0)) (bo (n:=2) (ag (al 2 bU.nd) (ag (al 3 bU.nd) aY))) (aa (cP (i:=1) bU.nd rfl (ada rfl) (ae aA (mv' 1) (ae cY (ab (mv' 3) mh') (mf' G (hr.mono (by decide)) (mc' (mv' 1) (mc' (ab (mv' 3) mh') mn'))))))) aau)
   (aa (ah (af (mc' (fz (ce (own:=["thing","fraction"]) (fr:=["bottom"]) (ps:=[1]) (sc:=(ac cG)) (by exact⟨rfl,by decide +kernel,by decide +kernel,by decide +kernel,by decide +kernel⟩) (bC (mv' 0)) (λ_ _ _ _ _=>(bo (n:=2) (ag (al 0 (show ab8 ((["thing","fraction"]:List Str)++(["bottom"]:List Str))from by decide +kernel)) (ag (al 1 (show ab8 ((["thing","fraction"]:List Str)++(["bottom"]:List Str))from by decide +kernel)) aY)))) (λ_ _ _ _ _=>cv) (λ_ _ _ _ _=>(af (mc' (mv' 0) (mc' (ae aA (ab (mv' 1) mh') (ae cY (mv' 2) (ab (mv' 1) mh'))) mn')))))) (mc' (mv' 1) mn'))))))),?_⟩
 case ar=>intro as r ⟨L,B,rfl,_⟩;rfl
 intro as r C ⟨L,B,rfl,h,k⟩;refine ai (MSt.mk [some (.imm (.list (prsD L))),none,none,none] [] 0) rfl ?_;ext s;refine bz (λi m=>∃a b:Option L2.R,m=MSt.mk [some (.imm (.list (prsD L))),some (.imm (.int (botL (L.take i):Int))),a,b] [] 0) ⟨none,none,rfl⟩ ?_ ?_
 .rintro i d m e hnp ⟨a,b,rfl⟩ D1 hD1 hR1;let⟨p,c,rfl,u⟩:=gmap e;have hp:=h.d p (oR c);have hb:=h.pre i;ext s
  .rfl
  ext s;refine⟨botL (L.take i),p.2.2,rfl,?_⟩;have v:0<(botL (L.take i)).gcd p.2.2:=abC _ hp.1;have z:(botL (L.take i)).gcd p.2.2≤botL (L.take i):=Nat.gcd_le_left _ hb.1;have j:p.2.2<10^76:=aao (ad0 h.b0 hp.2.1) h.b;ext x;refine iG (cfdB v (aao z (aaA hb.2 (by decide)))) ?_;rw[<-Int.natCast_ediv];refine b9 (df (by rw[aaH];exact aaA hb.2 (by decide)) (by rw[aaH];exact aao (adp _ _) (aaA j (by decide)))) ?_;have t:botL (L.take (i+1))=botL (L.take i)*(p.2.2/(botL (L.take i)).gcd p.2.2):=by
   rw[abX,c,<-Gf _ _ hp.1];exact yf _ _
  ext s;refine hD1 _ (show ∃a b:Option L2.R,_=MSt.mk [some (.imm (.list (prsD L))),some (.imm (.int (botL (L.take (i+1)):Int))),a,b] [] 0 from⟨some (.imm p.1),some (.imm (.tuple [.int p.2.1,.int (p.2.2:Int)])),?_⟩);rw[t,aap];rfl
 .rintro m hnp ⟨a,b,rfl⟩;have q:L.take (prsD L).length=L:=by unfold prsD;rw[gE];exact Ld
  have y:1≤botL L/\botL L<10^76:=by have:=h.pre L.length;rwa[Ld]at this
  rw[q];ext s;refine bz (λi m=>∃a b:Option L2.R,m=MSt.mk [a,b,some (.imm (.int (botL L:Int)))] [(onB L).take i] 1) ⟨none,none,rfl⟩ ?_ ?_
  .rintro i d m e hnp ⟨a,b,rfl⟩ D1 hD1 hR1;let⟨p,c,rfl,u⟩:=gmap e;have hp:=h.d p (oR c);have F:=h.n;have j:p.2.2<10^76:=aao (ad0 h.b0 hp.2.1) h.b;ext s
   .rfl
   ext s;refine iG (cfdB hp.1 (aaA j (by decide))) ?_;rw[<-Int.natCast_ediv];refine b9 (df (aaA hp.2.2 (by decide)) (by rw[aaH];exact aao (adp _ _) (aaA y.2 (by decide)))) ?_;ext x;refine⟨_,rfl,by rw[aaB,aag];omega,hD1 _ ⟨some (.imm p.1),some (.imm (.tuple [.int p.2.1,.int (p.2.2:Int)])),?_⟩⟩;have x:(onB L)[i]?=some (.tuple [p.1,.int (p.2.1*((botL L/p.2.2:Nat):Int))]):=by unfold onB;rw[GE,c];rfl
   rw[abX,x];rfl
  .rintro m hnp ⟨a,b,rfl⟩;have g:(onB L).take (prsD L).length=onB L:=by
    have:(prsD L).length=(onB L).length:=by unfold prsD onB;rw[gE,gE]
    rw[this];exact Ld
   rw[g];ext x;exact k
theorem jA(T:Bl K mg)(D:DefM K mg "place_of_lines" dh ["hall","lines"]):FnM P w K mg base "place_of_lines" 1 2 zk:=by
 refine aP D bR rfl (nN:=5) rfl (by decide) ?ar λq A outer s H E f hr=>⟨_,(mz' (ak 2 bR.nd mh')
   (mz' (bq (Jy T.zip (mc' (mv' 1) (mc' (ab (mv' 0) mh') mn'))) (bo (n:=2) (ag (al 3 bR.nd) (ag (al 4 bR.nd) aY))) (aa (ak 2 bR.nd (ae aQ (ae aA (mv' 2) (ae aQ (ab (mv' 4) mh') mh')) (mv' 3)))) aau)
   (aa (ah (mv' 2))))),?_⟩
 case ar=>intro as r ⟨h,l,rfl,_⟩;rfl
 intro as r u ⟨h,l,rfl,ho,o,k⟩;refine ai (MSt.mk [some (.imm (.tuple [.tuple [.int h.a,.int h.b],.tuple (h.ss.map Srv.d),.bool h.mv])),some (.imm (.tuple (natD l))),none,none,none] [] 0) rfl ?_;ext s;refine⟨true,_,true,_,rfl,rfl,?_⟩;refine d6 (λi m=>∃a b,m=MSt.mk [some (.imm (.tuple [.tuple [.int h.a,.int h.b],.tuple (h.ss.map Srv.d),.bool h.mv])),some (.imm (.tuple (natD l))),some (.imm (.int (M7.placeF 0 (h.rs.take i) (l.take i):Nat))),a,b] [] 0) ⟨none,none,rfl⟩ ?_ ?_
 .rintro i d m e n ⟨a,b,rfl⟩;let⟨a1,b1,c,g,rfl⟩:=JA e;let⟨x,ex,rfl,t⟩:=gmap c;let⟨s,j,rfl,v⟩:=gmap g;have r6:=(ho.ok s (oR j)).r6;rw[M7.placeF_take (Hall.rs_get j) ex];ext h
  .rfl
  ext s;generalize M7.placeF 0 (h.rs.take i) (l.take i)=P;have p:(P:Int)*((s.r:Int)+1)+(x:Int)=((P*(s.r+1)+x:Nat):Int):=by
   rw[ab0,aap,ab0];rfl
  rw[p];exact⟨_,_,rfl⟩
 .rintro m n ⟨a,b,rfl⟩;have c:min (natD l).length (h.ss.map Srv.d).length=l.length:=by rw[aq,gE];have:=o.1;omega
  rw[fv,c];have g:h.rs.take l.length=h.rs:=by rw[o.1,<-h.rsl];exact Ld
  rw[g,Ld];ext s;exact k
theorem jy(T:Bl K mg)(D:DefM K mg "first_shortest" dt ["lines","order"]):FnM P w K mg base "first_shortest" 1 2 lR:=by
 refine aP D cf rfl (nN:=4) rfl (by decide) ?ar λq A outer s H E f hr=>⟨_,(mz' (ak 2 cf.nd (ab (mv' 1) mh'))
   (mz' (bq (bC (mv' 1)) (al 3 cf.nd) (aa (bc (av jk (ab (mv' 0) (mv' 3)) (ab (mv' 0) (mv' 2)) (aG _)) (aa (ak 2 cf.nd (mv' 3))) aw)) aau)
   (aa (ah (mv' 2))))),?_⟩
 case ar=>intro as t ⟨l,o,rfl,_⟩;rfl
 intro as t x ⟨l,o,rfl,g,k⟩;let⟨c,os,rfl,h0⟩:=g.cons;refine ai (MSt.mk [some (.imm (.tuple (natD l))),some (.imm (.tuple (natD (c::os)))),none,none] [] 0) rfl ?_;ext s;refine aE (aB (j:=0) (aF rfl)) ?_;ext s;refine d6 (λi m=>∃a,m=MSt.mk [some (.imm (.tuple (natD l))),some (.imm (.tuple (natD (c::os)))),some (.imm (.int (M7.pick (br l) c ((c::os).take i):Nat))),a] [] 0) ⟨none,rfl⟩ ?_ ?_
 .rintro i d m e n ⟨a,rfl⟩;let⟨j,p,rfl,v⟩:=gmap e;have u:=g.lt j (oR p);have hb:M7.pick (br l) c ((c::os).take i)<l.length:=f8 g i;have r:(c::os).take (i+1)=(c::os).take i++[j]:=by rw[aaQ,p];rfl
  rw[r,M7.pick_app];generalize M7.pick (br l) c ((c::os).take i)=b at hb;ext s;refine aE (aB (aF (getN rfl u))) ?_;ext s;refine aE (aB (aF (getN rfl hb))) ?_;ext s;refine aH (λh=>?_) (λh=>?_)
  .ext s;rw[if_pos (show br l j b=true from decide_eq_true (by omega))];exact⟨_,rfl⟩
  .ext s;rw[if_neg (show ¬br l j b=true by unfold br;rw[decide_eq_true_eq];omega)];exact⟨_,rfl⟩
 .rintro m n ⟨a,rfl⟩;rw[aq,Ld];ext s;exact k
theorem xG(T:Bl K mg)(D:DefM K mg "wait_at" oX ["hall","lines","line"]):FnM P w K mg base "wait_at" 1 3 FG:=by
 refine aP D kq rfl (nN:=5) rfl (by decide) ?ar λi A outer s H E f hr=>⟨_,(mz' (cC (ab (ab (ab (mv' 0) mh') (mv' 2)) mh') (bo (n:=2) (ag (al 3 kq.nd) (ag (al 4 kq.nd) aY))))
   (aa (ah (af (mc' (ae aA (ae aQ (ab (mv' 1) (mv' 2)) mh') (mv' 4)) (mc' (mv' 3) mn')))))),?_⟩
 case ar=>intro as o ⟨h,l,j,rfl,_⟩;rfl
 intro as o p ⟨h,l,j,rfl,ho,c,a,k⟩;let⟨s,b,m,eb,hs⟩:=h.srv a;have so:=ho.ok s hs;have b2:=so.b2;rw[m,eb]at k;have g:=getN c.1 a;refine ai (MSt.mk [some (.imm (.tuple [.tuple [.int h.a,.int h.b],.tuple (h.ss.map Srv.d),.bool h.mv])),some (.imm (.tuple (natD l))),some (.imm (.int (j:Int))),none,none] [] 0) rfl ?_;ext s;refine aE (d:=s.d) (aB (by rw[GE,b];rfl)) ?_;ext h
 .rfl
 ext s;refine aE (aB (aF g)) ?_;ext s;have e:(((l.getD j 0:Nat):Int)+1)*(s.b:Int)=(((l.getD j 0+1)*s.b:Nat):Int):=by
  rw[aap,ab0];rfl
 rw[e];exact k
theorem jv(T:Bl K mg)(D:DefM K mg "first_quickest" dg ["hall","lines","order"])(G:FnM P w K mg base "wait_at" 1 3 FG)(g:FnM P w K mg base "is_less" 1 2 FE):FnM P w K mg base "first_quickest" 2 3 i6:=by
 refine aP D bw rfl (nN:=7) rfl (by decide) ?ar λy A outer s H E f hr=>⟨_,(mz' (ak 3 bw.nd (ab (mv' 2) mh'))
   (mz' (ak 4 bw.nd (mf' G (hr.mono (by decide)) (mc' (mv' 0) (mc' (mv' 1) (mc' (mv' 3) mn')))))
   (mz' (bq (bC (mv' 2)) (al 5 bw.nd) (mz' (ak 6 bw.nd (mf' G (hr.mono (by decide)) (mc' (mv' 0) (mc' (mv' 1) (mc' (mv' 5) mn')))))
   (aa (bc (t6 (mf' g (hr.mono (by decide)) (mc' (mv' 6) (mc' (mv' 4) mn')))) (aa (j7 (i:=3) (j:=4) bw.nd rfl rfl (by decide) rfl rfl (mc' (mv' 5) (mc' (mv' 6) mn')) rfl)) aw))) aau)
   (aa (ah (mv' 3)))))),?_⟩
 case ar=>intro as B ⟨h,l,o,rfl,_⟩;rfl
 intro as B I ⟨h,l,o,rfl,ho,r,t,k⟩;let⟨c,os,rfl,h0⟩:=t.cons;have u:∀j,j<h.ss.length->(l.getD j 0+1)*h.bn j<1000000000000/\h.an j<1000000000000:=λj p=>by
  let⟨s,L,C,eb,hs⟩:=h.srv p;have so:=ho.ok s hs;have J:=r.le ho _ (oR (getN r.1 p));rw[C,eb];have:=so.a2;have:(l.getD j 0+1)*s.b≤7*1000000:=aby (by omega) (by have:=so.b2;omega);omega
 refine ai (MSt.mk [some (.imm h.d),some (.imm (.tuple (natD l))),some (.imm (.tuple (natD (c::os)))),none,none,none,none] [] 0) rfl ?_;ext s;refine aE (aB (j:=0) (aF rfl)) ?_;ext s;refine⟨h,l,c,rfl,ho,r,h0,?_⟩;ext x;refine d6 (λi m=>∃a b,m=MSt.mk [some (.imm h.d),some (.imm (.tuple (natD l))),some (.imm (.tuple (natD (c::os)))),some (.imm (.int (M7.pick (bO h l) c ((c::os).take i):Nat))),some (.imm (frD ((l.getD (M7.pick (bO h l) c ((c::os).take i)) 0+1)*h.bn (M7.pick (bO h l) c ((c::os).take i)):Nat) (h.an (M7.pick (bO h l) c ((c::os).take i)):Nat))),a,b] [] 0) ⟨none,none,rfl⟩ ?_ ?_
 .rintro i d m e n ⟨a,b,rfl⟩;let⟨j,v,rfl,M⟩:=gmap e;have p:=t.lt j (oR v);have hb:M7.pick (bO h l) c ((c::os).take i)<h.ss.length:=f8 t i;have F:(c::os).take (i+1)=(c::os).take i++[j]:=by rw[aaQ,v];rfl
  rw[F,M7.pick_app];generalize M7.pick (bO h l) c ((c::os).take i)=b at hb;ext s;refine⟨h,l,j,rfl,ho,r,p,?_⟩;ext x;let⟨b1,b2⟩:=u j p;let⟨x,z⟩:=u b hb;refine⟨_,_,_,_,rfl,b1,b2,x,z,?_⟩;ext x;refine aH (λq=>?_) (λq=>?_)
  .ext s;rw[if_pos (show bO h l j b=true from decide_eq_true q)];exact⟨_,_,rfl⟩
  .ext s;rw[if_neg (show ¬bO h l j b=true by unfold bO;rw[decide_eq_true_eq];exact q)];exact⟨_,_,rfl⟩
 .rintro m n ⟨a,b,rfl⟩;rw[aq,Ld];ext s;exact k
theorem y3(T:Bl K mg)(D:DefM K mg "sent_to" mI ["hall","rule","stand","order"])(G:FnM P w K mg base "first_shortest" 1 2 lR)(a:FnM P w K mg base "first_quickest" 2 3 i6)(b:FnM P w K mg base "place_of_lines" 1 2 zk):FnM P w K mg base "sent_to" 3 4 jF:=by
 refine aP D ic rfl (nN:=7) rfl (by decide) ?ar λx A outer s H E f hr=>⟨_,(mz' (cC (mv' 2) (bo (n:=2) (ag (al 4 ic.nd) (ag (al 5 ic.nd) aY))))
   (mz' (ak 6 ic.nd (ab (mv' 1) mh'))
   (mz' (bc (av (bH hr.units) (mv' 6) aK (aG _)) (aa (ah (ab (mv' 3) mh'))) aw)
   (mz' (bc (av (bH hr.units) (mv' 6) aK (aG _)) (aa (ah (mv' 5))) aw)
   (mz' (bc (av (bH hr.units) (mv' 6) aK (aG _)) (aa (ah (mf' G (hr.mono (by decide)) (mc' (mv' 4) (mc' (fz (cA fy (mv' 3) cV (cW mh'))) mn'))))) aw)
   (mz' (bc (av (bH hr.units) (mv' 6) aK (aG _)) (aa (ah (mf' G (hr.mono (by decide)) (mc' (mv' 4) (mc' (mv' 3) mn'))))) aw)
   (mz' (bc (av (bH hr.units) (mv' 6) aK (aG _)) (aa (ah (mf' a (hr.mono (by decide)) (mc' (mv' 0) (mc' (mv' 4) (mc' (mv' 3) mn')))))) aw)
   (aa (ah (ab (ab (mv' 1) mh') (mf' b (hr.mono (by decide)) (mc' (mv' 0) (mc' (mv' 4) mn'))))))))))))),?_⟩
 case ar=>intro as y ⟨h,r,l,t,o,rfl,_⟩;rfl
 intro as y B ⟨h,r,l,t,o,rfl,ho,m,d,g,k⟩;have p:=d.1;have c:Ord l.length o:=by rw[p];exact g
 cases r with
 |random=>
  refine ai (MSt.mk [some (.imm h.d),some (.imm (.tuple [.str "random"])),some (.imm (.tuple [lnD l,.int (t:Int)])),some (.imm (.tuple (natD o))),none,none,none] [] 0) rfl ?_;ext s
  .rfl
  ext s;ext e;let⟨q,os,rfl,h0⟩:=g.cons;ext s;refine aE (aB (j:=0) (aF rfl)) ?_;ext s;exact k
 |turns=>
  refine ai (MSt.mk [some (.imm h.d),some (.imm (.tuple [.str "turns"])),some (.imm (.tuple [lnD l,.int (t:Int)])),some (.imm (.tuple (natD o))),none,none,none] [] 0) rfl ?_;ext s
  .rfl
  ext s;ext b;exact k
 | two=>
  refine ai (MSt.mk [some (.imm h.d),some (.imm (.tuple [.str "two"])),some (.imm (.tuple [lnD l,.int (t:Int)])),some (.imm (.tuple (natD o))),none,none,none] [] 0) rfl ?_;ext s
  .rfl
  ext a;ext e;ext s;have e:cutD (natD o) none (some 2)=natD (o.take 2):=by
   rw[show(2:Int)=((2:Nat):Int)from rfl,kl];simp[natD]
  rw[e];let⟨q,os,rfl,h0⟩:=g.cons;refine⟨l,(q::os).take 2,rfl,⟨by simp,λk v=>c.lt k (acW v),by rw[aaB];omega⟩,?_⟩;ext n;exact k
 |least=>
  refine ai (MSt.mk [some (.imm h.d),some (.imm (.tuple [.str "least"])),some (.imm (.tuple [lnD l,.int (t:Int)])),some (.imm (.tuple (natD o))),none,none,none] [] 0) rfl ?_;ext s
  .rfl
  ext a;ext b;refine⟨l,o,rfl,c,?_⟩;ext n;exact k
 |quick=>
  refine ai (MSt.mk [some (.imm h.d),some (.imm (.tuple [.str "quick"])),some (.imm (.tuple [lnD l,.int (t:Int)])),some (.imm (.tuple (natD o))),none,none,none] [] 0) rfl ?_;ext s
  .rfl
  ext a;ext c;ext s;ext b;refine⟨h,l,o,rfl,ho,d,g,?_⟩;ext n;exact k
 |told u=>
  refine ai (MSt.mk [some (.imm h.d),some (.imm (.tuple [.str "told",.tuple (natD u)])),some (.imm (.tuple [lnD l,.int (t:Int)])),some (.imm (.tuple (natD o))),none,none,none] [] 0) rfl ?_;ext s
  .rfl
  ext a;ext c;ext a;refine⟨h,l,rfl,ho,d,?_⟩;ext n;have i:M7.placeF 0 h.rs l<u.length:=by rw[m.1,M7.allR_cnt];exact M7.place_lt d.fits
  refine aE (aB (aF (getN rfl i))) ?_;exact k
def on(T:Bl K mg)(D:DefM K mg "first_stand" fG ["hall"]):FnM P w K mg base "first_stand" 1 1 zq:=by
 refine aP D oI rfl (nN:=1) rfl (by decide) ?ar λc A outer s H E f hr=>⟨_,(aa (ah (af (mc' (ae aA (af (mc' mh' mn')) (ap aV (by rfl) T.len cq (mc' (ab (mv' 0) mh') mn'))) (mc' mh' mn'))))),?_⟩
 case ar=>intro as a ⟨h,rfl,_⟩;rfl
 intro as a b ⟨h,rfl,ho,k⟩;have n1:=ho.n1;have n4:=ho.n4;refine ai (MSt.mk [some (.imm (.tuple [.tuple [.int h.a,.int h.b],.tuple (h.ss.map Srv.d),.bool h.mv]))] [] 0) rfl ?_;ext s;rw[gE];refine DQ (by omega) (by omega) (by simp;omega) ?_;ext s;have e:(aai ((h.ss.length:Nat):Int).toNat [abi 0]).flatten=natD (zer h):=by
  rw[aaM];simp[zer,natD]
 rw[e];exact k
theorem qZ(T:Bl K mg)(D:DefM K mg "all_orders" fg ["hall"]):FnM P w K mg base "all_orders" 1 1 Fg:=by
 refine aP D cJ rfl (nN:=4) rfl (by decide) ?ar λN A outer s H E f hr=>⟨_,(mz' (cP (i:=1) cJ.nd rfl (ada rfl) (ap aV (by rfl) T.len cq (mc' (ab (mv' 0) mh') mn')))
   (mz' (ak 2 cJ.nd (bZ (mc' (af mn') mn')))
   (mz' (bq (bv (by rfl) T.range (mc' (mv' 1) mn')) (al 3 cJ.nd) (aa (zu (i:=2) (own:=["ahead","line"]) (fr:=["many"]) (ps:=[1]) (sc:=(ac fg)) (by exact⟨rfl,by decide +kernel,by decide +kernel,by decide +kernel,by decide +kernel⟩) cJ.nd rfl rfl (bC (mv' 2)) (λ_ _ _ _ _=>(al 0 (show ab8 ((["ahead","line"]:List Str)++(["many"]:List Str))from by decide +kernel))) (λ_ _ _ _ _=>cv) (λ_ _ _ _ _=>(bv (by rfl) T.range (mc' (mv' 2) mn'))) (λ_ _ _ _ _=>(al 1 (show ab8 ((["ahead","line"]:List Str)++(["many"]:List Str))from by decide +kernel))) (λ_ _ _ _ _=>(uY (av (k7 hr.units) (mv' 1) (mv' 0) (by with_unfolding_all rfl)))) (λ_ _ _ _ _=>(ae aQ (mv' 0) (af (mc' (mv' 1) mn')))))) aau)
   (aa (ah (mv' 2)))))),?_⟩
 case ar=>intro as R ⟨h,rfl,_⟩;rfl
 intro as R W ⟨h,rfl,ho,k⟩;have n1:=ho.n1;have n4:=ho.n4;refine ai (MSt.mk [some (.imm (.tuple [.tuple [.int h.a,.int h.b],.tuple (h.ss.map Srv.d),.bool h.mv])),none,none,none] [] 0) rfl ?_;ext s;ext g;rw[gE];ext d;rw[aaM];refine d6 (λi m=>∃a,m=MSt.mk [some (.imm (.tuple [.tuple [.int h.a,.int h.b],.tuple (h.ss.map Srv.d),.bool h.mv])),some (.imm (.int (h.ss.length:Nat))),some (.obj 0),a] [(ordK h.ss.length i).map lnD] 0) ⟨none,rfl⟩ ?_ ?_
 .rintro i d m e n ⟨a,rfl⟩;let⟨V,rfl⟩:=bQ e;let⟨u,o⟩:=cn h.ss.length n4 i (by omega);have p:=gw h.ss.length n4 i (by omega);rw[show ordK h.ss.length (i+1)=gL h.ss.length (ordK h.ss.length i)from rfl];generalize ordK h.ss.length i=os at u o p;ext s;ext n;refine je (λz m=>∃b c,m=MSt.mk [b,c,some (.imm (.int (h.ss.length:Nat)))] [os.map lnD,(gL h.ss.length (os.take z)).map lnD] 2) ⟨none,none,rfl⟩ ?_ ?_ ?_
  .rintro z m ⟨b,c,rfl⟩;rfl
  .rintro z d m ez nz ⟨b,c,rfl⟩;let⟨l,v,rfl,X⟩:=gmap ez;let⟨O,M⟩:=o l (oR v);have L:=(DL.mp v).1;have I:=p z (by omega);ext s;ext d;rw[aaM];let⟨G,r⟩:∃G:Nat->List (List Nat),G=λy=>gL h.ss.length (os.take z)++((aaw y).filter λq=>!l.contains q).map λq=>l++[q]:=⟨_,rfl⟩;have F:G 0=gL h.ss.length (os.take z):=by rw[r];simp
   have C:G h.ss.length=gL h.ss.length (os.take (z+1)):=by rw[r,lM v]
   have g:∀y,G (y+1)=G y++([y].filter λq=>!l.contains q).map λq=>l++[q]:=λy=>by
    rw[r];show _++((aaw (y+1)).filter _).map _=_;rw[acU,ahw,aaE,abg]
   have t:∀y,y≤4->(G y).length≤28:=λy U=>by
    rw[r];dsimp only;rw[aaj,gE];have:=aeC (λq=>!l.contains q) (aaw y);rw[aaW]at this;omega
   clear r;rw[<-F];refine bz (λy m=>∃c,m=MSt.mk [some (.imm (lnD l)),c,some (.imm (.int (h.ss.length:Nat)))] [os.map lnD,(G y).map lnD] 2) ⟨c,rfl⟩ ?_ ?_
   .rintro y d m ey ny ⟨c,rfl⟩ D1 hD1 hR1;let⟨U,rfl⟩:=bQ ey;rw[show(0:Int)+(y:Int)=((y:Nat):Int) by omega];have J:=t y (by omega);have B:(natD l).any (λx=>aah x (.int (y:Int)))=l.contains y:=by
     rw[acz,agc,agH];constructor
     .rintro⟨x,hx,ex⟩;let⟨w,Q,rfl⟩:=aae.mp hx;rw[ca]at ex;rw[<-of_decide_eq_true ex];exact Q
     .intro hm;exact⟨_,aae.mpr ⟨y,hm,rfl⟩,by rw[ca];exact decide_eq_true rfl⟩
    ext s;refine x_in (d:=.int (y:Int)) (ds:=natD l) rfl (.inr rfl) (fj _) (fi l) (by decide) ?_;ext s;rw[B]
    cases hc:l.contains y with
    |true=>
     refine gH ?_;ext s;refine hD1 _ ⟨some (.imm (.int (y:Int))),?_⟩;rw[g,show([y].filter λq=>!l.contains q)=[] by rw[aeM,hc];rfl,adI,aa7];rfl
    |false=>
     refine jW ?_;ext s;refine kL (by rw[aag,aq];simp;omega) ?_;ext s;refine⟨_,rfl,by rw[aag,gE];omega,hD1 _ ⟨some (.imm (.int (y:Int))),?_⟩⟩;rw[g,show([y].filter λq=>!l.contains q)=[y] by rw[aeM,hc];rfl,aaE];simp[lnD,natD,MSt.setV]
   .rintro m ny ⟨c,rfl⟩;rw[aC,C];ext s;exact⟨_,_,rfl⟩
  .rintro m nz ⟨b,c,rfl⟩;rw[gE,Ld];ext n;refine md (k:=0) rfl (Ad _) (λj S=>?_) ⟨_,rfl⟩
   match j with
   |0|1|3=>exact λz=>by cases z
   |2=>exact(S rfl).elim
   |n+4=>exact λz=>by cases z
 .rintro m n ⟨a,rfl⟩;rw[aC];ext s;exact k
theorem tW(T:Bl K mg)(D:DefM K mg "with_more" iK ["lines","line","more"]):FnM P w K mg base "with_more" 1 3 jr:=by
 refine aP D su rfl (nN:=3) rfl (by decide) ?ar λc A outer s H E f hr=>⟨_,(aa (ah (ae aQ (ae aQ (cA fy (mv' 0) cV (cW (mv' 1))) (af (mc' (ae aQ (ab (mv' 0) (mv' 1)) (mv' 2)) mn'))) (cA fy (mv' 0) (cW (ae aQ (mv' 1) mh')) cV)))),?_⟩
 case ar=>intro as g ⟨l,j,d,x,rfl,_⟩;rfl
 intro as g i ⟨l,j,d,x,rfl,h,b,a,k⟩;refine ai (MSt.mk [some (.imm (.tuple (natD l))),some (.imm (.int (j:Int))),some (.imm (.int d))] [] 0) rfl ?_;ext s;refine aE (aB (aF (getN rfl h))) ?_;ext s;rw[a,kl];refine kL (by rw[aag,aaB,aq];simp;omega) ?_;ext s;rw[show(j:Int)+1=((j+1:Nat):Int)from rfl,kw];refine kL (by rw[aag,aaj,aaB,aeF,aq];simp;omega) ?_;ext s;have e:(natD l).take j++[.int (x:Int)]++(natD l).drop (j+1)=natD (l.set j x):=by
  rw[<-u7,aeh,if_pos (by rw[aq];exact h)];simp
 rw[e];exact k
theorem xu(T:Bl K mg)(D:DefM K mg "come_to" og ["hall","lines","line"])(G:FnM P w K mg base "with_more" 1 3 jr):FnM P w K mg base "come_to" 2 3 Fv:=by
 refine aP D yX rfl (nN:=3) rfl (by decide) ?ar λm A outer s H E f hr=>⟨_,(mz' (bc (av (bH hr.units) (ab (mv' 1) (mv' 2)) (ab (ab (ab (mv' 0) mh') (mv' 2)) mh') (aG _)) (aa (ah (af (mc' (mv' 1) (mc' aK mn'))))) aw)
   (aa (ah (af (mc' (mf' G (hr.mono (by decide)) (mc' (mv' 1) (mc' (mv' 2) (mc' mh' mn')))) (mc' aK mn')))))),?_⟩
 case ar=>intro as o ⟨h,l,j,rfl,_⟩;rfl
 intro as o p ⟨h,l,j,rfl,ho,i,g,k⟩;have a:=i.1;have n4:=ho.n4;let⟨s,b,q,eb,hs⟩:=h.srv g;have c:h.rn j=s.r:=bh (Hall.rs_get b);refine ai (MSt.mk [some (.imm (.tuple [.tuple [.int h.a,.int h.b],.tuple (h.ss.map Srv.d),.bool h.mv])),some (.imm (.tuple (natD l))),some (.imm (.int (j:Int)))] [] 0) rfl ?_;ext s;refine aE (aB (aF (getN a g))) ?_;ext s;refine aE (d:=s.d) (aB (by rw[GE,b];rfl)) ?_;ext h;refine aH (λz=>?_) (λz=>?_)
 .ext s;have e:e9 h l j=(l,.away):=if_pos (by rw[c];omega);rw[e]at k;exact k
 .ext s;refine⟨l,j,1,l.getD j 0+1,rfl,by omega,by omega,rfl,?_⟩;ext x;have e:e9 h l j=(l.set j (l.getD j 0+1),.taken):=if_neg (by rw[c];omega);rw[e]at k;exact k
theorem yI(T:Bl K mg)(D:DefM K mg "done_at" mE ["lines","line"])(G:FnM P w K mg base "with_more" 1 3 jr):FnM P w K mg base "done_at" 2 2 Fm:=by
 refine aP D Af rfl (nN:=2) rfl (by decide) ?ar λc A outer s H E f hr=>⟨_,(mz' (bc (av (bH hr.units) (ab (mv' 0) (mv' 1)) mh' (aG _)) (aa (ah (af (mc' (mv' 0) (mc' aK mn'))))) aw)
   (aa (ah (af (mc' (mf' G (hr.mono (by decide)) (mc' (mv' 0) (mc' (mv' 1) (mc' (jX h7 mh') mn')))) (mc' aK mn')))))),?_⟩
 case ar=>intro as b ⟨l,j,rfl,_⟩;rfl
 intro as b d ⟨l,j,rfl,a,h,k⟩;refine ai (MSt.mk [some (.imm (.tuple (natD l))),some (.imm (.int (j:Int)))] [] 0) rfl ?_;ext s;refine aE (aB (aF (getN rfl a))) ?_;ext s;refine aH (λz=>?_) (λz=>?_)
 .ext s;have e:dy l j=(l,.none):=if_pos (by omega);rw[e]at k;exact k
 .ext s;refine⟨l,j,-1,l.getD j 0-1,rfl,a,h,by omega,?_⟩;ext x;have e:dy l j=(l.set j (l.getD j 0-1),.served):=if_neg (by omega);rw[e]at k;exact k
theorem oY(T:Bl K mg)(D:DefM K mg "next_shift" gI ["hall","lines"]):FnM P w K mg base "next_shift" 1 2 yr:=by
 refine aP D qI rfl (nN:=2) rfl (by decide) ?ar λv A outer s H E f hr=>⟨_,(mz' (bc (EW.pt (za (JM (t6 (ab (mv' 0) mh'))) (za (av (k7 hr.units) mh' (mv' 1) (by with_unfolding_all rfl)) (yZ (av jk (ap (gc rfl) (by rfl) T.max u3 (mc' (mv' 1) mn')) mh' (aG _)))))) (aa (ah uc)) aw)
   (aa (ah (af (mc' (vf acp ac6 (gu hr.units) (mv' 1) (mc' (ap (gc rfl) (by rfl) T.max u3 (mc' (mv' 1) mn')) mn')) (mc' (vf acp ac6 (gu hr.units) (mv' 1) (mc' mh' mn')) mn')))))),?_⟩
 case ar=>intro as C ⟨h,l,rfl,_⟩;rfl
 intro as C J ⟨h,l,rfl,o,B,k⟩;have a:du (natD l)=some (l.map λ(x:Nat)=>(x:Int)):=by
  have:=fo (l.map λ(x:Nat)=>(x:Int));rwa[abc]at this
 have g:(l.map λ(x:Nat)=>(x:Int))≠[]:=λz=>o (ahd.mp z);have c:∀x:Int,x∈(l.map λ(x:Nat)=>(x:Int))->(∀y∈(l.map λ(x:Nat)=>(x:Int)),y≤x)->x=(maxN l:Int):=λx m b=>by
  let⟨n,F,rfl⟩:=aae.mp m;have I:=rj n F;have G:=b (maxN l:Int) (aae.mpr ⟨maxN l,iC o,rfl⟩);omega
 have r:(natD l).any (λy=>aah y (.int 0))=decide (0∈l):=by
  rw[acz];rw[agc,decide_eq_true_eq];constructor
  .rintro⟨y,b,e⟩;let⟨x,m,rfl⟩:=aae.mp b;have u:=ca x 0;rw[show((0:Nat):Int)=0 from rfl,e]at u;have:x=0:=of_decide_eq_true u.symm;rw[<-this];exact m
  .intro h0;exact⟨.int 0,aae.mpr ⟨0,h0,rfl⟩,ca 0 0⟩
 refine ai (MSt.mk [some (.imm (.tuple [.tuple [.int h.a,.int h.b],.tuple (h.ss.map Srv.d),.bool h.mv])),some (.imm (.tuple (natD l)))] [] 0) rfl ?_;ext s
 cases hmv:h.mv with
 |false=>
  refine jW ?_;ext s;have e:dq h l=none:=if_neg (by rw[hmv];exact λz=>by cases z.1);rw[e]at k;exact k
 | true=>
  refine gH ?_;ext s;refine x_in (d:=.int 0) (ds:=natD l) rfl (.inr rfl) (fj 0) (fi l) (by decide) ?_;ext s;rw[r]
  by_cases h0:0∈l
  .rw[decide_eq_true h0];refine gH ?_;ext s;refine u6 rfl a g λx m b=>?_;rw[c x m b];ext s;refine aH (λz=>?_) (λz=>?_)
   .ext s;have e:dq h l=none:=if_neg (λq=>by have:=q.2.2;omega);rw[e]at k;exact k
   .ext s;refine u6 rfl a g λx m b=>?_;rw[c x m b];have s1:=gq (iC o);have t:=gq h0;ext s;refine jG (j:=idx l (maxN l)) (k':=0) (fj _) (fi l) (by decide) (aF s1.1) (by rw[ca];exact decide_eq_true rfl) (λi y p b=>?_) ?_
    .obtain⟨z,ez,rfl,_⟩:=gmap b;rw[ca];exact decide_eq_false (s1.2 i z p ez)
    ext s;refine jG (j:=idx l 0) (k':=0) (fj _) (fi l) (by decide) (aF t.1) (ca 0 0) (λi y p b=>?_) ?_
    .obtain⟨z',ez,rfl,_⟩:=gmap b;have:=ca z' 0;rw[show((0:Nat):Int)=0 from rfl]at this;rw[this];exact decide_eq_false (t.2 i z' p ez)
    ext s;have e:dq h l=some (idx l (maxN l),idx l 0):=if_pos ⟨hmv,h0,by omega⟩;rw[e]at k;exact k
  .rw[decide_eq_false h0];refine jW ?_;ext s;have e:dq h l=none:=if_neg (λq=>h0 q.2.1);rw[e]at k;exact k
theorem zx(T:Bl K mg)(D:DefM K mg "settled" nh ["hall","lines"])(G:FnM P w K mg base "next_shift" 1 2 yr)(a:FnM P w K mg base "with_more" 1 3 jr):FnM P w K mg base "settled" 2 2 qV:=by
 refine aP D ix rfl (nN:=3) rfl (by decide) ?ar λt A outer s H E f hr=>⟨_,(mz' (ak 2 ix.nd (mf' G (hr.mono (by decide)) (mc' (mv' 0) (mc' (mv' 1) mn'))))
   (mz' (ii (av vP (mv' 2) uc (aG _)) (mz' (ak 1 ix.nd (mf' a (hr.mono (by decide)) (mc' (mf' a (hr.mono (by decide)) (mc' (mv' 1) (mc' (ab (mv' 2) mh') (mc' (jX h7 mh') mn')))) (mc' (ab (mv' 2) mh') (mc' mh' mn')))))
   (aa (ak 2 ix.nd (mf' G (hr.mono (by decide)) (mc' (mv' 0) (mc' (mv' 1) mn')))))) aau)
   (aa (ah (mv' 1))))),?_⟩
 case ar=>intro as y ⟨h,l,rfl,_⟩;rfl
 intro as y C ⟨h,l,rfl,j,o,k⟩;refine ai (MSt.mk [some (.imm h.d),some (.imm (lnD l)),none] [] 0) rfl ?_;ext s;refine⟨h,l,rfl,j,o,?_⟩;ext x;refine oy (λn m=>∃b:List Nat,m=MSt.mk [some (.imm h.d),some (.imm (lnD b)),some (.imm (optP (dq h b)))] [] 0/\n=b.count 0/\cU h n b=dw h l/\b≠[]/\b.length≤1000) (l.count 0) ⟨l,rfl,rfl,rfl,j,o⟩ ?_;intro n m F ⟨b,rfl,rfl,hs,g,i⟩;ext s
 cases e:dq h b with
 |none=>
  refine gH ?_;ext s;rw[js e]at hs;rw[<-hs]at k;exact k
 | some p=>
  refine jW ?_;let⟨B,r,q,v,c⟩:=iW e;let⟨I,m1,m2,x,u⟩:=f9 e;have J:b.getD p.1 0=maxN b:=bh m1;have L:(b.set p.1 (maxN b-1)).getD p.2 0=0:=bh (by rw[aaC u];exact x);dsimp only[optP];ext s;refine⟨b,p.1,-1,maxN b-1,rfl,r,i,by omega,?_⟩;ext x;refine⟨b.set p.1 (maxN b-1),p.2,1,1,rfl,by rw[abj];exact q,by rw[abj];exact i,by omega,?_⟩;rw[<-B];ext x;have d:ck b p≠[]:=λz=>by
   rw[z]at c;exact g (abh c.symm)
  refine⟨h,ck b p,rfl,d,by omega,?_⟩;ext x;refine⟨(ck b p).count 0,by omega,ck b p,rfl,rfl,?_,d,by omega⟩;rw[<-hs,<-v];show _=cU h ((ck b p).count 0+1) b;simp only[cU,e]
def mJ(T:Bl K mg)(D:DefM K mg "turn_behind" fM ["hall","rule","turn"]):FnM P w K mg base "turn_behind" 1 3 yt:=by
 refine aP D m7 rfl (nN:=3) rfl (by decide) ?ar λc A outer s H E f hr=>⟨_,(mz' (bc (av (bH hr.units) (ab (mv' 1) mh') aK (aG _)) (aa (ah (ae cQ (ae aQ (mv' 2) mh') (ap aV (by rfl) T.len cq (mc' (ab (mv' 0) mh') mn'))))) aw)
   (aa (ah (mv' 2)))),?_⟩
 case ar=>intro as a ⟨h,r,t,rfl,_⟩;rfl
 intro as a b ⟨h,r,t,rfl,ho,k⟩;have n1:=ho.n1;refine ai (MSt.mk [some (.imm (.tuple [.tuple [.int h.a,.int h.b],.tuple (h.ss.map Srv.d),.bool h.mv])),some (.imm r.d),some (.imm (.int (t:Int)))] [] 0) rfl ?_;ext s;refine IJ r.dc (aB (j:=0) rfl) ?_;ext s;refine aH (λz=>?_) (λz=>?_)
 .have hr:r = .turns:=by cases r<;>first|rfl|exact absurd z (by decide +kernel)|exact absurd (show("told" : Str) = "turns" from z) (by decide +kernel)
  subst hr;ext s;refine Gn (by rw[gE];omega) ?_;rw[gE];exact k
 .ext s;have e:qM h r t=t:=by cases r<;>first|rfl|exact absurd rfl z
  rw[e]at k;exact k
theorem zJ(T:Bl K mg)(D:DefM K mg "line_of" nk ["hall","rule","stand","move"])(G:FnM P w K mg base "sent_to" 3 4 jF):FnM P w K mg base "line_of" 4 4 u8:=by
 refine aP D yR rfl (nN:=4) rfl (by decide) ?ar λc A outer s H E f hr=>⟨_,(mz' (bc (av (bH hr.units) (ab (mv' 3) mh') aK (aG _)) (aa (ah (mf' G (hr.mono (by decide)) (mc' (mv' 0) (mc' (mv' 1) (mc' (mv' 2) (mc' (ab (mv' 3) mh') mn'))))))) aw)
   (mz' (bc (av (bH hr.units) (ab (mv' 3) mh') aK (aG _)) (aa (ah (ab (mv' 3) mh'))) aw)
   (aa (ah uc)))),?_⟩
 case ar=>intro as e ⟨h,r,l,t,mv,rfl,_⟩;rfl
 intro as e g ⟨h,r,l,t,mv,rfl,ho,a,b,d,k⟩
 cases mv with
 |come o=>
  refine ai (MSt.mk [some (.imm h.d),some (.imm r.d),some (.imm (stD l t)),some (.imm (.tuple [.str "come",lnD o]))] [] 0) rfl ?_;ext s;ext e;ext s;refine⟨h,r,l,t,o,rfl,ho,a,b,d,?_⟩;ext n;exact k
 |done j=>
  refine ai (MSt.mk [some (.imm h.d),some (.imm r.d),some (.imm (stD l t)),some (.imm (.tuple [.str "done",.int (j:Int)]))] [] 0) rfl ?_;ext s;ext b;exact k
 |still=>
  refine ai (MSt.mk [some (.imm h.d),some (.imm r.d),some (.imm (stD l t)),some (.imm (.tuple [.str "still"]))] [] 0) rfl ?_;ext a;exact k
theorem vN(T:Bl K mg)(D:DefM K mg "moved_on" jN ["hall","rule","stand","move"])(a:FnM P w K mg base "line_of" 4 4 u8)(d:FnM P w K mg base "come_to" 2 3 Fv)(G:FnM P w K mg base "turn_behind" 1 3 yt)(b:FnM P w K mg base "done_at" 2 2 Fm)(c:FnM P w K mg base "settled" 2 2 qV):FnM P w K mg base "moved_on" 5 4 zG:=by
 refine aP D bT rfl (nN:=8) rfl (by decide) ?ar λv A outer s H E f hr=>⟨_,(mz' (cC (mv' 2) (bo (n:=2) (ag (al 4 bT.nd) (ag (al 5 bT.nd) aY))))
   (mz' (ak 6 bT.nd aK)
   (mz' (ak 7 bT.nd (mf' a (hr.mono (by decide)) (mc' (mv' 0) (mc' (mv' 1) (mc' (mv' 2) (mc' (mv' 3) mn'))))))
   (mz' (bc (av (bH hr.units) (ab (mv' 3) mh') aK (aG _)) (mz' (cC (mf' d (hr.mono (by decide)) (mc' (mv' 0) (mc' (mv' 4) (mc' (mv' 7) mn')))) (bo (n:=2) (ag (al 4 bT.nd) (ag (al 6 bT.nd) aY))))
   (aa (ak 5 bT.nd (mf' G (hr.mono (by decide)) (mc' (mv' 0) (mc' (mv' 1) (mc' (mv' 5) mn'))))))) (aa (bc (av (bH hr.units) (ab (mv' 3) mh') aK (aG _)) (aa (cC (mf' b (hr.mono (by decide)) (mc' (mv' 4) (mc' (mv' 7) mn'))) (bo (n:=2) (ag (al 4 bT.nd) (ag (al 6 bT.nd) aY))))) aw)))
   (aa (ah (af (mc' (af (mc' (mf' c (hr.mono (by decide)) (mc' (mv' 0) (mc' (mv' 4) mn'))) (mc' (mv' 5) mn'))) (mc' (mv' 6) mn'))))))))),?_⟩
 case ar=>intro as x ⟨h,r,l,t,mv,rfl,_⟩;rfl
 intro as x B ⟨h,r,l,t,mv,rfl,ho,i,m,p,y,k⟩;have u:=m.1;have n1:=ho.n1;have n4:=ho.n4;have ne:∀q:List Nat,q.length=l.length->q≠[]:=λq e z=>by rw[z]at e;simp at e;omega
 cases mv with
 |come o=>
  refine ai (MSt.mk [some (.imm h.d),some (.imm r.d),some (.imm (.tuple [lnD l,.int (t:Int)])),some (.imm (.tuple [.str "come",lnD o])),none,none,none,none] [] 0) rfl ?_;ext s
  .rfl
  ext s;refine⟨h,r,l,t,.come o,rfl,ho,i,m,p,?_⟩;dsimp only[AU];ext x;ext e;ext s;refine⟨h,l,sent h r l t o,rfl,ho,m,sX ho i m p y,?_⟩;ext n;dsimp only[lwD];ext s
  .rfl
  ext s;refine⟨h,r,t,rfl,ho,?_⟩;ext x;have g:(e9 h l (sent h r l t o)).1.length=l.length:=by unfold e9;split<;>simp
  refine⟨h,_,rfl,ne _ g,by omega,?_⟩;ext x;exact k
 |done j=>
  refine ai (MSt.mk [some (.imm h.d),some (.imm r.d),some (.imm (.tuple [lnD l,.int (t:Int)])),some (.imm (.tuple [.str "done",.int (j:Int)])),none,none,none,none] [] 0) rfl ?_;ext s
  .rfl
  ext s;refine⟨h,r,l,t,.done j,rfl,ho,i,m,p,?_⟩;dsimp only[AU];ext x;ext b;refine⟨l,j,rfl,by rw[u];exact p,by omega,?_⟩;ext n;dsimp only[lwD];ext s
  .rfl
  ext s;have g:(dy l j).1.length=l.length:=by unfold dy;split<;>simp
  refine⟨h,_,rfl,ne _ g,by omega,?_⟩;ext x;exact k
 |still=>
  refine ai (MSt.mk [some (.imm h.d),some (.imm r.d),some (.imm (.tuple [lnD l,.int (t:Int)])),some (.imm (.tuple [.str "still"])),none,none,none,none] [] 0) rfl ?_;ext s
  .rfl
  ext s;refine⟨h,r,l,t,.still,rfl,ho,i,m,p,?_⟩;dsimp only[AU];ext x;ext c;ext s;ext c;ext s;refine⟨h,l,rfl,ne _ rfl,by omega,?_⟩;ext x;exact k
theorem oo(T:Bl K mg)(D:DefM K mg "move_shares" dF ["hall"])(c:FnM P w K mg base "all_orders" 1 1 Fg)(g:FnM P w K mg base "divided" 3 2 Pq)(G:FnM P w K mg base "taken_off" 3 2 K8):FnM P w K mg base "move_shares" 4 1 u5:=by
 refine aP D aW rfl (nN:=10) rfl (by decide) ?ar λB A outer s H E f hr=>⟨_,(mz' (cC (mv' 0) (bo (n:=3) (ag (al 1 aW.nd) (ag (al 2 aW.nd) (ag (al 3 aW.nd) aY)))))
   (mz' (ak 4 aW.nd (mf' c (hr.mono (by decide)) (mc' (mv' 0) mn')))
   (mz' (cP (i:=5) aW.nd rfl (ada rfl) (mf' g (hr.mono (by decide)) (mc' (mv' 1) (mc' (af (mc' (ap aV (by rfl) T.len cq (mc' (mv' 4) mn')) (mc' mh' mn'))) mn'))))
   (mz' (wn (i:=6) (own:=["order"]) (fr:=["each"]) (ps:=[5]) (sc:=(ac dF)) (by exact⟨rfl,by decide +kernel,by decide +kernel,by decide +kernel,by decide +kernel⟩) aW.nd rfl rfl (bC (mv' 4)) (λ_ _ _ _ _=>(al 0 (show ab8 ((["order"]:List Str)++(["each"]:List Str))from by decide +kernel))) (λ_ _ _ _ _=>cv) (λ_ _ _ _ _=>(af (mc' (af (mc' aK (mc' (mv' 0) mn'))) (mc' (mv' 1) mn')))))
   (mz' (ak 7 aW.nd (mf' G (hr.mono (by decide)) (mc' (FW T.c_WHOLE_TURN (by rfl)) (mc' (mv' 1) mn'))))
   (mz' (bq (AK T.enumerate (mc' (mv' 2) mn')) (bo (n:=2) (ag (al 8 aW.nd) (ag (al 9 aW.nd) aY))) (mz' (fc (jt acq acr e8 (mv' 6) (mc' (af (mc' (af (mc' aK (mc' (mv' 8) mn'))) (mc' (ab (mv' 9) mh') mn'))) mn')))
   (aa (ak 7 aW.nd (mf' G (hr.mono (by decide)) (mc' (mv' 7) (mc' (ab (mv' 9) mh') mn')))))) aau)
   (mz' (bc (av il (ab (mv' 7) mh') mh' (aG _)) (aa (fc (jt acq acr e8 (mv' 6) (mc' (af (mc' (af (mc' aK mn')) (mc' (mv' 7) mn'))) mn')))) aw)
   (aa (ah (mv' 6)))))))))),?_⟩
 case ar=>intro as J ⟨h,rfl,_⟩;rfl
 intro as J Q ⟨h,rfl,ho,k⟩;have a1:=ho.a1;have a2:=ho.a2;have b1:=ho.b1;have b2:=ho.b2;have n4:=ho.n4;have x:=(cn h.ss.length ho.n4 h.ss.length ho.n4).1;have R:=dG h.ss.length ho.n4;refine ai (MSt.mk [some (.imm (.tuple [.tuple [.int h.a,.int h.b],.tuple (h.ss.map Srv.d),.bool h.mv])),none,none,none,none,none,none,none,none,none] [] 0) rfl ?_;ext s
 .rfl
 ext s;refine⟨h,rfl,ho,?_⟩;ext n;ext g;refine⟨(h.a:Int),(h.b:Int),(((ordK h.ss.length h.ss.length).map lnD).length:Int),1,rfl,⟨by omega,by omega,by omega⟩,⟨by rw[gE];omega,by decide,by decide⟩,by rw[gE];omega,?_⟩;ext x;rw[gE];refine je (λi m=>∃a,m=MSt.mk [a,some (.imm (nf ((h.a:Int)*1) ((h.b:Int)*((ordK h.ss.length h.ss.length).length:Int))))] [(ordK h.ss.length h.ss.length).map lnD,(g9 h).take i] 2) ⟨none,rfl⟩ ?_ ?_ ?_
 .rintro i m ⟨a,rfl⟩;rfl
 .rintro i d m e hnp ⟨a,rfl⟩;let⟨o,M,rfl,u⟩:=gmap e;ext s;have y:(g9 h)[i]?=some (.tuple [(Mv.come o).d,nf ((h.a:Int)*1) ((h.b:Int)*((ordK h.ss.length h.ss.length).length:Int))]):=by unfold g9;rw[GE,M];rfl
  refine⟨_,rfl,by rw[aaB,aag];omega,some (.imm (lnD o)),?_⟩;rw[abX,y];rfl
 .rintro m hnp ⟨a,rfl⟩;have I:(g9 h).take ((ordK h.ss.length h.ss.length).map lnD).length=g9 h:=by
   have:((ordK h.ss.length h.ss.length).map lnD).length=(g9 h).length:=by unfold g9;rw[gE,gE]
   rw[this];exact Ld
  rw[I];ext n;ext g;refine⟨1,1,(h.a:Int),(h.b:Int),rfl,⟨by decide,by decide,by decide⟩,⟨by omega,by omega,by omega⟩,?_⟩;ext f;ext x;refine⟨true,h.ss.map Srv.d,rfl,?_⟩;refine bz (λi m=>∃a b,m=MSt.mk [some (.imm (.tuple [.tuple [.int h.a,.int h.b],.tuple (h.ss.map Srv.d),.bool h.mv])),some (.imm (.tuple [.int h.a,.int h.b])),some (.imm (.tuple (h.ss.map Srv.d))),some (.imm (.bool h.mv)),some (.obj 0),some (.imm (nf ((h.a:Int)*1) ((h.b:Int)*((ordK h.ss.length h.ss.length).length:Int)))),some (.obj 1),some (.imm (rsD h i)),a,b] [(ordK h.ss.length h.ss.length).map lnD,g9 h++jz h i] 0) ⟨none,none,?_⟩ ?_ ?_
  .rw[show jz h 0=[]from rfl,aa7];rfl
  .rintro i d m e hnp ⟨a,b,rfl⟩ D1 hD1 hR1;have u:i<h.ss.length:=by
    have:=(DL.mp e).1;rw[dM,gE]at this;exact this
   have t:h.ss[i]?=some h.ss[i]:=iO u;have N:d = .tuple [.int (i:Int),Srv.d h.ss[i]]:=by
    have:=qf (ds:=h.ss.map Srv.d) (i:=i) (d:=Srv.d h.ss[i]) (by rw[GE,t];rfl);rw[this]at e;exact(aal e).symm
   subst N;have so:=ho.ok h.ss[i] (abr _);have sa:=so.a2;have sb:=so.b2;have r:=so.b1;have O:=ub ho (k:=i) (by omega);have ln:(jz h i).length=i:=by unfold jz;rw[gE,aaW]
   have C:(g9 h).length≤24:=by unfold g9;rw[gE];exact x
   generalize L:h.ss[i]=F at *;let⟨v,p,q⟩:=F;ext s
   .rfl
   ext s;refine aE (ds:=[.tuple [.int (v:Int),.int (p:Int)],.int (q:Int)]) (aB (j:=0) rfl) ?_;ext s;refine⟨_,rfl,?_⟩;refine⟨by rw[aag,aaj];omega,?_⟩;ext x;refine aE (ds:=[.tuple [.int (v:Int),.int (p:Int)],.int (q:Int)]) (aB (j:=0) rfl) ?_;ext s;refine⟨(restF h i).1,(restF h i).2,(v:Int),(p:Int),rfl,O,⟨by simp only at sa;omega,by simp only at sb;omega,by simp only at r;omega⟩,?_⟩;rw[<-Bz (s:=⟨v,p,q⟩) t];ext f;ext n;refine hD1 _ ⟨some (.imm (.int (i:Int))),some (.imm (Srv.d ⟨v,p,q⟩)),?_⟩;rw[vE,bh t,abg];rfl
  .rintro m hnp ⟨a,b,rfl⟩;rw[dM,gE];ext s;refine aE (ds:=[.int (restF h h.ss.length).1,.int (restF h h.ss.length).2]) (aB (j:=0) rfl) ?_;ext s;have ln:(jz h h.ss.length).length=h.ss.length:=by unfold jz;rw[gE,aaW]
   have C:(g9 h).length≤24:=by unfold g9;rw[gE];exact x
   rw[ML ho]at k;refine aH (λz=>?_) (λz=>?_)
   .rw[if_pos z]at k;ext s;refine⟨_,rfl,?_⟩;refine⟨by rw[aag,aaj];omega,?_⟩;ext x;exact k
   .rw[if_neg z,aa7]at k;ext s;exact k
theorem jw(T:Bl K mg)(D:DefM K mg "weights_behind" dm ["hall","rule","weights"])(g:FnM P w K mg base "move_shares" 4 1 u5)(G:FnM P w K mg base "on_one_bottom" 2 1 uu)(o:FnM P w K mg base "moved_on" 5 4 zG):FnM P w K mg base "weights_behind" 6 3 qq:=by
 refine aP D aI rfl (nN:=13) rfl (by decide) ?ar λcdv A outer s H E f hr=>⟨_,(mz' (cC (mf' G (hr.mono (by decide)) (mc' (fz (mf' g (hr.mono (by decide)) (mc' (mv' 0) mn'))) mn')) (bo (n:=2) (ag (al 3 aI.nd) (ag (al 4 aI.nd) aY))))
   (mz' (ak 5 aI.nd ol)
   (mz' (ak 6 aI.nd ol)
   (mz' (bq (yw (mv' 2)) (bo (n:=2) (ag (al 7 aI.nd) (ag (al 8 aI.nd) aY))) (aa (bq (bC (mv' 3)) (bo (n:=2) (ag (al 9 aI.nd) (ag (al 10 aI.nd) aY))) (mz' (cC (mf' o (hr.mono (by decide)) (mc' (mv' 0) (mc' (mv' 1) (mc' (mv' 7) (mc' (mv' 9) mn'))))) (bo (n:=2) (ag (al 11 aI.nd) (ag (al 12 aI.nd) aY))))
   (mz' (pI hr.units (ae aQ (jR hr.units (mv' 5) (mc' (mv' 11) (mc' mh' mn'))) (ae aA (mv' 8) (mv' 10))) (mv' 5) (mv' 11))
   (aa (Bw hr.units (ae aQ (jR hr.units (mv' 6) (mc' (mv' 12) (mc' mh' mn'))) (ae aA (mv' 8) (mv' 10))) (mv' 6) (mv' 12))))) aau)) aau)
   (aa (yy (Gg (ah (af (mc' (mv' 5) (mc' (mv' 6) (mc' (mv' 4) mn')))))))))))),?_⟩
 case ar=>intro as Kc ⟨h,r,W,rfl,_⟩;rfl
 intro as Kc hl ⟨h,r,W,rfl,ho,z,Y,hWl,k⟩;have hB:=jq ho;let⟨mn,mo⟩:=IW ho;refine ai (MSt.mk [some (.imm h.d),some (.imm r.d),some (.imm (wtD W)),none,none,none,none,none,none,none,none,none,none] [] 0) rfl ?_;ext s;refine⟨h,rfl,ho,?_⟩;ext x;refine⟨shrL h,_,rfl,hB,?_⟩;rw[Og];ext x
 .rfl
 ext s;ext n;refine FH (by rw[BI ho λp hp=>(Y p hp).1,afm]) ?_;refine bz (λi m=>∃a b c d e f:Option L2.R,m=MSt.mk [some (.imm h.d),some (.imm r.d),some (.imm (wtD W)),some (.imm (.list (msD (msL h)))),some (.imm (.int (botH h:Int))),some (.at 0 []),some (.at 1 []),a,b,c,d,e,f] [[.dict (lfKV (kvA ptD ((W.take i).foldl (goW h r (msL h)) ([],[])).1))],[.dict (lfKV (kvA wdD ((W.take i).foldl (goW h r (msL h)) ([],[])).2))]] 0/\GoOk h r (29*i) ((W.take i).foldl (goW h r (msL h)) ([],[]))) ⟨none,none,none,none,none,none,rfl,⟨λ_ hp=>(by cases hp),Ad _,Ad _⟩⟩ ?_ ?_
 .rintro i d m e hnp ⟨a1,a2,a3,a4,a5,a6,rfl,G0⟩ D1 hD1 hR1;let⟨B,X,rfl,hi⟩:∃B:Pt×Int,W[i]?=some B/\.tuple [ptD B.1,.int B.2]=d/\i<W.length:=by
   have F:(cw (kvA ptD W))[i]?=some d:=e;unfold cw kvA at F;rw[abc,GE]at F
   cases q:W[i]? with
   |none=>rw[q]at F;cases F
   |some B=>
    rw[q]at F;exact⟨B,rfl,aal F,(DL.mp q).1⟩
  let⟨⟨l,t⟩,v⟩:=B;let⟨R,M⟩:=Y _ (oR X);have u:(W.take (i+1)).foldl (goW h r (msL h)) ([],[])=goW h r (msL h) ((W.take i).foldl (goW h r (msL h)) ([],[])) ((l,t),v):=by
   rw[abX,X,ady];rfl
  generalize hx0:(W.take i).foldl (goW h r (msL h)) ([],[])=L at *;ext s
  .rfl
  ext s;refine bz (λj m=>∃c d e f:Option L2.R,m=MSt.mk [some (.imm h.d),some (.imm r.d),some (.imm (wtD W)),some (.imm (.list (msD (msL h)))),some (.imm (.int (botH h:Int))),some (.at 0 []),some (.at 1 []),some (.imm (ptD (l,t))),some (.imm (.int v)),c,d,e,f] [[.dict (lfKV (kvA ptD (((msL h).take j).foldl (λx q=>goW1 h r (l,t) v q x) L).1))],[.dict (lfKV (kvA wdD (((msL h).take j).foldl (λx q=>goW1 h r (l,t) v q x) L).2))]] 0/\GoOk h r (29*i+j) (((msL h).take j).foldl (λx q=>goW1 h r (l,t) v q x) L)) ⟨a3,a4,a5,a6,rfl,G0⟩ ?_ ?_
  .rintro j d m ej hnj ⟨b3,b4,b5,b6,rfl,G1⟩ D2 hD2 hR2;let⟨q,eq,rfl,hj⟩:=gmap ej;have N:=mo q (oR eq);have y:((msL h).take (j+1)).foldl (λx q=>goW1 h r (l,t) v q x) L=goW1 h r (l,t) v q (((msL h).take j).foldl (λx q=>goW1 h r (l,t) v q x) L):=by
    rw[abX,eq,ady];rfl
   have U:=G1.next ho z R v N.1;rw[y]at hD2;generalize ((msL h).take j).foldl (λx q=>goW1 h r (l,t) v q x) L=J at *;ext s
   .rfl
   ext s;refine⟨h,r,l,t,q.1,rfl,ho,z,R.ln,N.1,R.tn,?_⟩;ext n;rw[show mvD (cK h r l t q.1) = .tuple [ptD ((cK h r l t q.1).1,(cK h r l t q.1).2.1),wdD (cK h r l t q.1).2.2]from rfl];unfold goW1 at U hD2;have Q:=nH ho z R N.1;generalize cK h r l t q.1=mm at *;let⟨S,V,I⟩:=mm;dsimp only at Q U hD2⊢;ext s
   .rfl
   ext s;ext n;have C:=BI ho G1.st;have O:=sd ho Q;have m1:=G1.n1;have m2:=G1.n2;refine⟨kvA ptD J.1,⟨rfl,rfl⟩,.inr C,?_⟩;ext s;refine⟨kvA ptD J.1,ptD (S,V),.int 0,rfl,⟨rfl,rfl⟩,by unfold oneK;rw[C,show kyD (ptD (S,V))=true from O,ahk,afm],?_⟩;rw[sE jU];ext s;refine b9 (df M N.2) ?_;ext s;refine⟨_,kvA ptD J.1,rfl,rfl,rfl,C,O,by unfold kvA;rw[gE,aag];omega,?_⟩;rw[z7 jU];ext x;refine⟨kvA wdD J.2,⟨rfl,rfl⟩,.inl (kI _),?_⟩;ext s;refine⟨kvA wdD J.2,wdD I,.int 0,rfl,⟨rfl,rfl⟩,by unfold oneK;rw[kI];rfl,?_⟩;rw[sE (enc:=wdD) Fo];ext s;refine b9 (df M N.2) ?_;ext s;rw[show wdD I = .str I.s from rfl];ext s;refine⟨_,lfKV (kvA wdD J.2),rfl,rfl,by rw[km];exact kI _,rfl,by unfold lfKV kvA;rw[gE,gE,aag];omega,?_⟩;rw[show afw I.s=wdD I from rfl,yo (by rfl) (kI _),z7 (enc:=wdD) Fo];exact hD2 _ ⟨some (.imm q.1.d),some (.imm (.int q.2)),some (.imm (ptD (S,V))),some (.imm (wdD I)),rfl,U⟩
  .rintro m hnj ⟨b3,b4,b5,b6,rfl,G1⟩;have el:(msD (msL h)).length=(msL h).length:=by unfold msD;rw[gE]
   have Z:(msL h).take (msD (msL h)).length=msL h:=by rw[el];exact Ld
   rw[Z]at G1;rw[Z];refine hD1 _ (show ∃a b c d e f:Option L2.R,_ from⟨some (.imm (ptD (l,t))),some (.imm (.int v)),b3,b4,b5,b6,?_,?_⟩)
   .rw[u];rfl
   .rw[u];refine⟨G1.st,aak G1.n1 ?_,aak G1.n2 ?_⟩<;>rw[el]<;>omega
 .rintro m hnp ⟨a1,a2,a3,a4,a5,a6,rfl,G0⟩;have eW:W.take (cw (kvA ptD W)).length=W:=by unfold cw kvA;rw[gE,gE];exact Ld
  rw[eW];rw[eW]at G0;refine KJ 0 5 (kvA ptD (W.foldl (goW h r (msL h)) ([],[])).1) [1] (MSt.mk [some (.imm h.d),some (.imm r.d),some (.imm (wtD W)),some (.imm (.list (msD (msL h)))),some (.imm (.int (botH h:Int))),some (.imm (wtD (W.foldl (goW h r (msL h)) ([],[])).1)),some (.at 0 []),none,none,none,none,none,none] [[.dict (lfKV (kvA wdD (W.foldl (goW h r (msL h)) ([],[])).2))]] 0) rfl rfl (BI ho G0.st) ?_ ?_
  .exact II rfl rfl rfl rfl rfl rfl rfl rfl ⟨.inl rfl,.inl rfl,.inl rfl,.inl rfl,.inl rfl,.inr ⟨rfl,.inr rfl⟩,.inl ⟨1,rfl,rfl⟩,.inl trivial,.inl trivial,.inl trivial,.inl trivial,.inl trivial,.inl trivial,trivial⟩
  refine QP 0 6 (kvA wdD (W.foldl (goW h r (msL h)) ([],[])).2) [] (MSt.mk [some (.imm h.d),some (.imm r.d),some (.imm (wtD W)),some (.imm (.list (msD (msL h)))),some (.imm (.int (botH h:Int))),some (.imm (wtD (W.foldl (goW h r (msL h)) ([],[])).1)),some (.imm (.dict (kvA wdD (W.foldl (goW h r (msL h)) ([],[])).2))),none,none,none,none,none,none] [] 0) rfl rfl (by rw[km];exact kI _) ?_ ?_
  .exact II rfl rfl rfl rfl rfl rfl rfl rfl ⟨.inl rfl,.inl rfl,.inl rfl,.inl rfl,.inl rfl,.inl rfl,.inr ⟨rfl,.inr rfl⟩,.inl trivial,.inl trivial,.inl trivial,.inl trivial,.inl trivial,.inl trivial,trivial⟩
  ext s;exact k
theorem oN(T:Bl K mg)(D:DefM K mg "told_shares" dE ["weights","whole"])(G:FnM P w K mg base "fraction_of" 2 2 Bq):FnM P w K mg base "told_shares" 3 2 D5:=by
 refine aP D mi rfl (nN:=2) rfl (by decide) ?ar λt A outer s H E f hr=>⟨_,(aa (ah (cp de (by rfl) T.tuple h8 (mc' (ce (own:=["stand","weight"]) (fr:=["whole"]) (ps:=[1]) (sc:=(ac dE)) (by exact⟨rfl,by decide +kernel,by decide +kernel,by decide +kernel,by decide +kernel⟩) (bC (fz (wy hr.units T.sorted (mv' 0)))) (λ_ _ _ _ _=>(bo (n:=2) (ag (al 0 (show ab8 ((["stand","weight"]:List Str)++(["whole"]:List Str))from by decide +kernel)) (ag (al 1 (show ab8 ((["stand","weight"]:List Str)++(["whole"]:List Str))from by decide +kernel)) aY)))) (λ_ _ _ _ _=>cv) (λ_ _ _ _ _=>(af (mc' (mv' 0) (mc' (mf' G (hr.mono (by decide)) (mc' (mv' 1) (mc' (mv' 2) mn'))) mn'))))) mn')))),?_⟩
 case ar=>intro as v ⟨h,r,W,D,rfl,_⟩;rfl
 intro as v y ⟨h,r,W,D,rfl,ho,X,z,u,k⟩;refine ai (MSt.mk [some (.imm (wtD W)),some (.imm (.int (D:Int)))] [] 0) rfl ?_;ext s;have E:=P7 ho X;refine⟨_,rfl,.inr (BI ho X.st),?_⟩;rw[Bc];refine⟨E.srt X,λj p o=>?_⟩;let⟨c,s,rfl⟩:=E.srd X p o;have ln:c.length<10001:=by rw[s.p.length_eq];exact X.n
 ext s;ext n;refine bz (λi m=>∃a b:Option L2.R,m=MSt.mk [a,b,some (.imm (.int (D:Int)))] [(c.take i).map λq=>.tuple [ptD q.1,nf q.2 (D:Int)]] 1) ⟨none,none,rfl⟩ ?_ ?_
 .rintro i d m e hnp ⟨a,b,rfl⟩ D1 hD1 hR1;let⟨q,eq,rfl,x⟩:=gmap e;have g:=s.p.mem_iff.mp (oR eq);show CU 2 _ (.tuple [ptD q.1,.int q.2]) _ _;ext s
  .rfl
  ext s;refine⟨q.2,(D:Int),rfl,by omega,aaA (X.v q g) (by decide),by rw[aaH];exact aaA u (by decide),?_⟩;ext x;refine⟨_,rfl,by rw[aag,gE,aaB];omega,hD1 _ ⟨some (.imm (ptD q.1)),some (.imm (.int q.2)),?_⟩⟩;rw[aaQ,eq,aaE];rfl
 .rintro m hnp ⟨a,b,rfl⟩;rw[gE,Ld];ext s;exact k c s
theorem j4(T:Bl K mg)(D:DefM K mg "left_by_turns" d4 ["hall","rule","turns"])(g:FnM P w K mg base "first_stand" 1 1 zq)(G:FnM P w K mg base "weights_behind" 6 3 qq)(j:FnM P w K mg base "told_shares" 3 2 D5):FnM P w K mg base "left_by_turns" 7 3 y7:=by
 refine aP D bg rfl (nN:=8) rfl (by decide) ?ar λv A outer s H E f hr=>⟨_,(mz' (ak 3 bg.nd (pG hr.units (mf' g (hr.mono (by decide)) (mc' (mv' 0) mn')) mh'))
   (mz' (ak 4 bg.nd mh')
   (mz' (bq (bv (by rfl) T.range (mc' (mv' 2) mn')) (al 5 bg.nd) (mz' (cC (mf' G (hr.mono (by decide)) (mc' (mv' 0) (mc' (mv' 1) (mc' (mv' 3) mn')))) (bo (n:=3) (ag (al 3 bg.nd) (ag (al 6 bg.nd) (ag (al 7 bg.nd) aY)))))
   (aa (ak 4 bg.nd (ae aA (mv' 4) (mv' 7))))) aau)
   (aa (ah (mf' j (hr.mono (by decide)) (mc' (mv' 3) (mc' (mv' 4) mn')))))))),?_⟩
 case ar=>intro as B ⟨h,r,n,rfl,_⟩;rfl
 intro as B F ⟨h,r,n,rfl,q,X,k⟩;have ho:=q.ho;have o:=q.hr;have I:=q.le;have t:=QG ho o q.h0 (by omega) (aaA q.b (by decide));refine ai (MSt.mk [some (.imm h.d),some (.imm r.d),some (.imm (.int (n:Int))),none,none,none,none,none] [] 0) rfl ?_;ext s;refine⟨h,rfl,ho,?_⟩;ext x;refine⟨sd ho (mj ho r),?_⟩;ext s;ext d;rw[show((n:Int)).toNat=n by omega];have C:botH h<10^76:=by have:=(jq ho).pre (shrL h).length;rw[Ld]at this;exact this.2
 have u:∀{z:Nat},z<10^90->z<10^160:=λx=>aaA x (by decide);refine bz (λi m=>∃a b c:Option L2.R,m=MSt.mk [some (.imm h.d),some (.imm r.d),some (.imm (.int (n:Int))),some (.imm (wtD (stW h r i))),some (.imm (.int ((botH h^i:Nat):Int))),a,b,c] [] 0) ⟨none,none,none,rfl⟩ ?_ ?_
 .rintro i d m e hnp ⟨a,b,c,rfl⟩ D1 hD1 hR1;let⟨J,rfl⟩:=bQ e;ext s;refine⟨h,r,stW h r i,rfl,ho,o,λp hp=>⟨mh ho o i p hp,u (t.w i (by omega) p hp)⟩,t.l i (by omega),?_⟩;ext x
  .rfl
  ext s;ext n;have y:((botH h:Nat):Int).natAbs<10^160:=by rw[aaH];exact up45 C
  refine b9 (df (by rw[aaH];exact u (t.b i (by omega))) y) ?_;ext s;rw[<-aap,<-adk];exact hD1 _ ⟨_,_,_,rfl⟩
 .rintro m hnp ⟨a,b,c,rfl⟩;rw[aC];ext s;have bp:0<botH h^n:=Nat.pow_pos (ko ho);refine⟨h,r,stW h r n,botH h^n,rfl,ho,X,bp,aaA q.b (by decide),λW s=>?_⟩;ext x;exact k W s
theorem r9(T:Bl K mg)(D:DefM K mg "_law_tape" i8 ["_law_script"]):FnM P w K mg base "_law_tape" 1 1 DI:=by
 refine aP D t5 rfl (nN:=1) rfl (by decide) ?ar λc A outer s H E f hr=>⟨_,(aa (ah (bZ (mc' (fz (cA fy (mv' 0) cV (cW mh'))) (mc' mh' (mc' mh' mn')))))),?_⟩
 case ar=>intro as b ⟨a,rfl,_⟩;rfl
 intro as b d ⟨a,rfl,h,k⟩;refine ai (MSt.mk [some (.imm (.list (a.map .int)))] [] 0) rfl ?_;ext s;have e:cutD (a.map abi) none (some 63)=a.map .int:=Cy (n:=63) (by rw[gE];exact h);rw[e];exact k _ ⟨a,0,0,rfl,h,by omega,by omega,by omega⟩
def t7(T:Bl K mg)(D:DefM K mg "_law_draw" iJ ["_law_tape_here","_law_many"]):FnM P w K mg base "_law_draw" 1 2 kM:=by
 refine aP D cg rfl (nN:=6) rfl (by decide) ?ar λC A outer s H E f hr=>⟨_,(mz' (bc (av il (ab (mv' 0) mh') mh' (aG _)) (mz' (ak 2 cg.nd (ae cQ (ab (mv' 0) mh') (mv' 1)))
   (mz' (ow (ae cY (ab (mv' 0) mh') (mv' 1)) (mv' 0) mh')
   (aa (ah (mv' 2))))) aw)
   (mz' (ak 3 cg.nd (ab (mv' 0) mh'))
   (mz' (ow (ae aQ (mv' 3) mh') (mv' 0) mh')
   (mz' (ak 4 cg.nd mh')
   (mz' (bc (av il (ap aV (by rfl) T.len cq (mc' (ab (mv' 0) mh') mn')) mh' (aG _)) (aa (ak 4 cg.nd (ab (ab (mv' 0) mh') (ae cQ (mv' 3) (ap aV (by rfl) T.len cq (mc' (ab (mv' 0) mh') mn')))))) aw)
   (mz' (bc (EW.pt (jV (av Pg (mv' 4) (ae JT mh' mh') (aG _)) (ot (av jk (mv' 3) (ap aV (by rfl) T.len cq (mc' (ab (mv' 0) mh') mn')) (aG _))))) (mz' (ow (ae cY (mv' 4) (mv' 1)) (mv' 0) mh')
   (aa (ah (ae cQ (mv' 4) (mv' 1))))) aw)
   (mz' (ak 5 cg.nd (ae cQ (ae aA (ae aQ (ae aQ (ae aQ (ae cQ (mv' 4) mh') (ae aA (ae aA mh' (mv' 3)) (mv' 3))) (ae aA mh' (mv' 3))) mh') mh') mh'))
   (mz' (ak 5 cg.nd (ae cQ (ae aQ (ae aQ (ae aA (mv' 5) (mv' 5)) (ae aA mh' (mv' 5))) (mv' 3)) mh'))
   (aa (ah (ae cQ (ae cY (ae cQ (ae aA (mv' 5) mh') mh') mh') (mv' 1)))))))))))),?_⟩
 case ar=>intro as t ⟨ds,m,c,rfl,_⟩;rfl
 intro as t F ⟨ds,m,c,rfl,⟨ns,p,q,rfl,u,r,hp,g⟩,G,d,z,k⟩;refine ai (MSt.mk [some (.obj 0),some (.imm (.int m)),none,none,none,none] [[.list (ns.map .int),.int p,.int q]] 1) rfl ?_;ext s;refine aH (λh=>?_) (λh=>?_)
 .ext s;exact k _ _ (afe _ (by omega)) (aec _ d) ⟨ns,p,q/m,rfl,u,r,by omega,Int.ediv_nonneg g (by omega)⟩
 .ext s;have fin:∀x:Int,0≤x->x<m->∀e:Int,0≤e->t (.imm (.int x)) [[.list (ns.map .int),.int (p+1),.int e]]:=λx b j e v=>k _ _ b j ⟨ns,p+1,e,rfl,u,by omega,by omega,v⟩;have a:∀y:Int,0≤y/7%m/\y/7%m<m:=λy=>⟨afe _ (by omega),aec _ d⟩;refine aH (λb=>?_) (λb=>?_)
  .ext s;have o:(0:Int)<((List.map abi ns).length:Int):=by simpa using b
   let⟨x,B⟩:=Cr (ns:=ns) (i:=p%((List.map abi ns).length:Int)) (afe _ (by omega)) (by have:=aec p o;simp only[gE]at this⊢;exact this);refine t3 B ?_;ext s;refine aH (λb=>?_) (λb=>?_)
   .ext s;refine aH (λj=>?_) (λj=>?_)
    .ext s;exact fin _ (afe _ (by omega)) (aec _ d) _ (Int.ediv_nonneg (agr (by decide) b) (by omega))
    .ext s;exact fin _ (a _).1 (a _).2 _ g
   .ext s;exact fin _ (a _).1 (a _).2 _ g
  .ext s;refine aH (λb=>?_) (λb=>?_)
   .exact absurd b (by decide)
   .ext s;exact fin _ (a _).1 (a _).2 _ g
theorem vx(T:Bl K mg)(D:DefM K mg "_law_cut" kj ["_law_top","_law_bottom"]):FnM P w K mg base "_law_cut" 1 2 ph:=by
 refine aP D iL rfl (nN:=4) rfl (by decide) ?ar λu A outer s H E f hr=>⟨_,(mz' (j7 (i:=2) (j:=3) iL.nd rfl rfl (by decide) rfl rfl (mc' (ap qi (by rfl) T.abs DH (mc' (mv' 0) mn')) (mc' (mv' 1) mn')) rfl)
   (mz' (ii (av il (mv' 3) mh' (aG _)) (aa (j7 (i:=2) (j:=3) iL.nd rfl rfl (by decide) rfl rfl (mc' (mv' 3) (mc' (ae cQ (mv' 2) (mv' 3)) mn')) rfl)) aau)
   (aa (ah (af (mc' (ae cY (mv' 0) (mv' 2)) (mc' (ae cY (mv' 1) (mv' 2)) mn'))))))),?_⟩
 case ar=>intro as v ⟨a,b,rfl,_⟩;rfl
 intro as v z ⟨t,b,rfl,d,F,hb,k⟩;refine ai (MSt.mk [some (.imm (.int t)),some (.imm (.int b)),none,none] [] 0) rfl ?_;ext s;rw[show(if t<0 then -t else t)=(t.natAbs:Int) by split<;>omega];refine oy (λn m=>∃x y:Nat,m=MSt.mk [some (.imm (.int t)),some (.imm (.int b)),some (.imm (.int x)),some (.imm (.int y))] [] 0/\x.gcd y=t.natAbs.gcd b/\n=y) b ⟨t.natAbs,b,rfl,rfl,rfl⟩ ?_;intro n m C ⟨x,y,rfl,h,rfl⟩;ext s;refine aH (λp=>?_) (λB=>?_)
 .ext s;have r:0<n:=by omega
  have q:=ahr x r;exact⟨x%n,q,n,x%n,rfl,by rw[agu,<-Nat.gcd_rec,agu,h],rfl⟩
 .have hy0:n=0:=by omega
  subst hy0;rw[ahv]at h;have o:0<x:=by rw[h];exact abC _ d
  have g:x≤b:=by rw[h];exact af5 _ d
  ext s;rw[h];have e:t.natAbs.gcd b<10^160:=by rw[<-h];exact aao g hb
  have c:0<t.natAbs.gcd b:=by rw[<-h];exact o
  refine iG (cfdB c e) ?_;ext s;refine iG (cfdB c e) ?_;ext s;unfold nf nfP at k;rw[if_neg (by omega),aaH]at k;exact k
theorem rJ(T:Bl K mg)(D:DefM K mg "_law_plus" iI ["_law_one","_law_other"])(G:FnM P w K mg base "_law_cut" 1 2 ph):FnM P w K mg base "_law_plus" 2 2 GU:=by
 refine aP D sn rfl (nN:=2) rfl (by decide) ?ar λi A outer s H E f hr=>⟨_,(aa (ah (mf' G (hr.mono (by decide)) (mc' (ae aQ (ae aA (ab (mv' 0) mh') (ab (mv' 1) mh')) (ae aA (ab (mv' 1) mh') (ab (mv' 0) mh'))) (mc' (ae aA (ab (mv' 0) mh') (ab (mv' 1) mh')) mn'))))),?_⟩
 case ar=>intro as m ⟨a,b,c,d,rfl,_⟩;rfl
 intro as m o ⟨a,b,c,d,rfl,e,h,k⟩;refine ai (MSt.mk [some (.imm (.tuple [.int a,.int b])),some (.imm (.tuple [.int c,.int d]))] [] 0) rfl ?_;ext s;refine b9 (df (up45 e.ha) (up45 h.hb)) ?_;ext s;refine b9 (df (up45 h.ha) (up45 e.hb)) ?_;ext s;refine b9 (df (up45 e.hb) (up45 h.hb)) ?_;ext s;let⟨j,eb,g⟩:=uK e.hp h.hp;rw[eb];refine⟨_,j,rfl,g,K7 (fX e.ha h.hb) (fX h.ha e.hb),(by have:=fX e.hb h.hb;rw[eb,aaH]at this;exact rL this),?_⟩;ext n;rw[<-eb];exact k
theorem qR(T:Bl K mg)(D:DefM K mg "_law_times" gW ["_law_one","_law_other"])(G:FnM P w K mg base "_law_cut" 1 2 ph):FnM P w K mg base "_law_times" 2 2 M9:=by
 refine aP D p7 rfl (nN:=2) rfl (by decide) ?ar λi A outer s H E f hr=>⟨_,(aa (ah (mf' G (hr.mono (by decide)) (mc' (ae aA (ab (mv' 0) mh') (ab (mv' 1) mh')) (mc' (ae aA (ab (mv' 0) mh') (ab (mv' 1) mh')) mn'))))),?_⟩
 case ar=>intro as m ⟨a,b,c,d,rfl,_⟩;rfl
 intro as m o ⟨a,b,c,d,rfl,e,h,k⟩;refine ai (MSt.mk [some (.imm (.tuple [.int a,.int b])),some (.imm (.tuple [.int c,.int d]))] [] 0) rfl ?_;ext s;refine b9 (df (up45 e.ha) (up45 h.ha)) ?_;ext s;refine b9 (df (up45 e.hb) (up45 h.hb)) ?_;ext s;let⟨j,eb,g⟩:=uK e.hp h.hp;rw[eb];refine⟨_,j,rfl,g,rL (fX e.ha h.ha),(by have:=fX e.hb h.hb;rw[eb,aaH]at this;exact rL this),?_⟩;ext n;rw[<-eb];exact k
theorem qb(T:Bl K mg)(D:DefM K mg "_law_parts" dn ["_law_tape_here","_law_many"])(G:FnM P w K mg base "_law_draw" 1 2 kM)(g:FnM P w K mg base "_law_cut" 1 2 ph):FnM P w K mg base "_law_parts" 3 2 vh:=by
 refine aP D dN rfl (nN:=5) rfl (by decide) ?ar λV A outer s H E f hr=>⟨_,(mz' (cP (i:=2) dN.nd rfl (ada rfl) (ab (bZ (mc' mh' (mc' mh' (mc' mh' (mc' (ab (bZ (mc' mh' (mc' mh' mn'))) (cp kg (by rfl) T.int xz (mc' (jd il (mv' 1) mh' (aG _)) mn'))) mn'))))) (mf' G (hr.mono (by decide)) (mc' (mv' 0) (mc' mh' mn')))))
   (mz' (cP (i:=3) dN.nd rfl (ada rfl) (ce (own:=["_law_k"]) (fr:=["_law_tape_here","_law_most"]) (ps:=[0,2]) (sc:=(ac dn)) (by exact⟨rfl,by decide +kernel,by decide +kernel,by decide +kernel,by decide +kernel⟩) (bv (by rfl) T.range (mc' (ae aQ (mv' 1) mh') mn')) (λ_ _ _ _ _=>(al 0 (show ab8 ((["_law_k"]:List Str)++(["_law_tape_here","_law_most"]:List Str))from by decide +kernel))) (λ_ _ _ _ _=>cv) (λ_ _ _ _ _=>(ae aQ mh' (mf' G (hr.mono (by decide)) (mc' (mv' 1) (mc' (mv' 2) mn')))))))
   (mz' (cP (i:=4) dN.nd rfl (ada rfl) (ab (bZ (mc' mh' (mc' (ae aQ mh' (mf' G (hr.mono (by decide)) (mc' (mv' 0) (mc' (mv' 2) mn')))) (mc' (mf' G (hr.mono (by decide)) (mc' (mv' 0) (mc' mh' mn'))) mn')))) (mf' G (hr.mono (by decide)) (mc' (mv' 0) (mc' mh' mn')))))
   (aa (ah (ce (own:=["_law_part"]) (fr:=["_law_parts_here","_law_rest"]) (ps:=[3,4]) (sc:=(ac dn)) (by exact⟨rfl,by decide +kernel,by decide +kernel,by decide +kernel,by decide +kernel⟩) (bC (mv' 3)) (λ_ _ _ _ _=>(al 0 (show ab8 ((["_law_part"]:List Str)++(["_law_parts_here","_law_rest"]:List Str))from by decide +kernel))) (λ_ _ _ _ _=>cv) (λ_ _ _ _ _=>(mf' g (hr.mono (by decide)) (mc' (mv' 0) (mc' (ae aQ (ap (v7 rfl) (by rfl) T.sum Lm (mc' (mv' 1) mn')) (mv' 2)) mn')))))))))),?_⟩
 case ar=>intro as Z ⟨fd,c,n,rfl,_⟩;rfl
 intro as Z hl ⟨fd,c,n,rfl,b,hc,hn,k⟩;refine ai (MSt.mk [some (.obj 0),some (.imm (.int (n:Int))),none,none,none] [fd] 1) rfl ?_;let⟨u,I,n1,n2⟩:∃u:Nat,atI [abi 1600,abi 40] (if decide (2<(n:Int))=true then 1 else 0)=some (.int (u:Int))/\1≤u/\u≤1600:=by
  split
  .exact⟨40,rfl,by decide,by decide⟩
  .exact⟨1600,rfl,by decide,by decide⟩
 ext s;refine fZ I ?_;ext s;refine⟨fd,_,_,rfl,b,by omega,by decide,by decide,λi fd hi0 hi1 b=>?_⟩;ext n;let⟨v,N,U,S⟩:∃v:Nat,atI [abi 9,abi 3,abi 40,abi (u:Int)] i=some (.int (v:Int))/\1≤v/\v≤1600:=by
  rcases (show i=0\/i=1\/i=2\/i=3 by omega)with z|z|z|z<;>rw[z]
  .exact⟨9,rfl,by decide,by decide⟩
  .exact⟨3,rfl,by decide,by decide⟩
  .exact⟨40,rfl,by decide,by decide⟩
  .exact⟨u,rfl,n1,n2⟩
 ext s;refine fZ N ?_;ext s;ext d;rw[show((n:Int)+1).toNat=n+1 by omega];ext n;refine bz (λz m=>∃(a:Option L2.R) (y:List dL) (ps:List Nat),m=MSt.mk [a,some (.obj 0),some (.imm (.int (v:Int)))] [y,natD ps] 2/\TapeD (c+1+z) y/\ps.length=z/\∀p∈ps,1≤p/\p≤1600) ⟨none,fd,[],rfl,b,rfl,λ_ h=>by cases h⟩ ?_ ?_
 .rintro z d m e X ⟨a,fd,ps,rfl,b,o,j⟩ D1 hD1 hR1;let⟨hi,rfl⟩:=bQ e;ext s;refine⟨fd,_,_,rfl,b,by omega,by omega,by omega,λq fd t F b=>?_⟩;ext n;let⟨qn,rfl⟩:=abt t;ext s;refine⟨_,rfl,by rw[aag,aq];omega,hD1 _ ⟨some (.imm (.int (0+(z:Int)))),fd,ps++[1+qn],by rw[uR];rfl,b,by rw[aaj,o];rfl,λx B=>?_⟩⟩;obtain B|B:=aaO.mp B
  .exact j x B
  .rw[aab.mp B];omega
 intro m hm ⟨a,fd,ps,rfl,b,o,j⟩;rw[aC]at b o;ext n;refine cE ?_;ext n;refine ai (MSt.mk [some (.obj 0),some (.imm (.int (n:Int))),some (.imm (.int (v:Int))),some (.obj 1),none] [fd,natD ps] 1) rfl ?_;ext s;refine⟨fd,_,_,rfl,b,by omega,by omega,by omega,λL fd t F b=>?_⟩;ext n;let⟨L,rfl⟩:=abt t;ext s;refine⟨fd,_,_,rfl,b,by omega,by omega,by omega,λQ fd J hr1 b=>?_⟩;ext n;let⟨Q,rfl⟩:=abt J;ext s;refine⟨fd,_,_,rfl,b,by omega,by omega,by omega,λC fd W Y b=>?_⟩;ext n;let⟨r,O,re4⟩:∃r:Nat,atI [abi 0,abi (1+(L:Int)),abi (Q:Int)] C=some (.int (r:Int))/\r≤1601:=by
  rcases (show C=0\/C=1\/C=2 by omega)with z|z|z<;>rw[z]
  .exact⟨0,rfl,by decide⟩
  .exact⟨1+L,by rw[ab0];rfl,by omega⟩
  .exact⟨Q,rfl,by omega⟩
 ext s;refine fZ O ?_;ext s;have R:=E9 λp hp=>(j p hp).2;ext n;refine zd (λz m=>∃a,m=MSt.mk [a,some (.obj 1),some (.imm (.int (r:Int)))] [fd,natD ps,((ps.take z).map (cutN (ps.sum+r))).map prD] 3) ⟨none,rfl⟩ ?_ ?_ ?_
 .rintro z m ⟨a,rfl⟩;rfl
 .rintro z d m ez nz ⟨a,rfl⟩ D2 hD2;let⟨p,M,rfl,X⟩:=gmap ez;have hp:=j p (oR M);have hp2:=xK (oR M);ext s;refine NK rfl (zM ps) ?_;rw[sumZ];ext s;refine⟨(p:Int),ps.sum+r,by rw[ab0],by omega,aao (show((p:Nat):Int).natAbs≤1600 by omega) (by decide),aao (show ps.sum+r≤100000 by omega) (by decide),?_⟩;rw[KO (by omega)];ext x;refine⟨_,rfl,by rw[aag,gE,gE,aaB];omega,hD2 _ ⟨some (.imm (.int (p:Int))),?_⟩⟩;rw[aaQ,M,aaE,aaE];rfl
 .rintro m hm ⟨a,rfl⟩;rw[aq,Ld];ext s;exact k ps (ps.sum+r) fd o j (by have:=List.length_pos_iff.mp (show 0<ps.length by omega);cases ps with|nil=>exact(this rfl).elim|cons x ps=>have:=j x Io;simp only[aco];omega) (by omega) (by omega) (b.mono (by omega))
theorem sK(T:Bl K mg)(D:DefM K mg "_law_hall" ga ["_law_tape_here","_law_menu"])(G:FnM P w K mg base "_law_draw" 1 2 kM)(t:FnM P w K mg base "_law_parts" 3 2 vh):FnM P w K mg base "_law_hall" 4 2 wf:=by
 refine aP D bF rfl (nN:=8) rfl (by decide) ?ar λcdv A outer s H E f hr=>⟨_,(mz' (cP (i:=2) bF.nd rfl (ada rfl) (ab (mv' 1) (mf' G (hr.mono (by decide)) (mc' (mv' 0) (mc' (ap aV (by rfl) T.len cq (mc' (mv' 1) mn')) mn')))))
   (mz' (ak 3 bF.nd (mf' t (hr.mono (by decide)) (mc' (mv' 0) (mc' (ap aV (by rfl) T.len cq (mc' (mv' 2) mn')) mn'))))
   (mz' (cP (i:=4) bF.nd rfl (ada rfl) (cA fy (mv' 3) (cW mh') cV))
   (mz' (bc (av (bH hr.units) (mf' G (hr.mono (by decide)) (mc' (mv' 0) (mc' mh' mn'))) mh' (aG _)) (mz' (cP (i:=2) bF.nd rfl (ada rfl) (ae aA (cA fy (mv' 2) cV (cW mh')) (ap aV (by rfl) T.len cq (mc' (mv' 2) mn'))))
   (mz' (ak 5 bF.nd (ab (mv' 4) mh'))
   (mz' (bq (bC (mv' 4)) (al 6 bF.nd) (aa (bc (av jk (ae aA (ab (mv' 6) mh') (ab (mv' 5) mh')) (ae aA (ab (mv' 5) mh') (ab (mv' 6) mh')) (aG _)) (aa (ak 5 bF.nd (mv' 6))) aw)) aau)
   (aa (cP (i:=4) bF.nd rfl (ada rfl) (ae aA (bZ (mc' (mv' 5) mn')) (ap aV (by rfl) T.len cq (mc' (mv' 2) mn')))))))) aw)
   (mz' (ak 7 bF.nd (cp de (by rfl) T.tuple h8 (mc' (ce (own:=["_law_k"]) (fr:=["_law_speeds","_law_rooms"]) (ps:=[4,2]) (sc:=(ac ga)) (by exact⟨rfl,by decide +kernel,by decide +kernel,by decide +kernel,by decide +kernel⟩) (bv (by rfl) T.range (mc' (ap aV (by rfl) T.len cq (mc' (mv' 2) mn')) mn')) (λ_ _ _ _ _=>(al 0 (show ab8 ((["_law_k"]:List Str)++(["_law_speeds","_law_rooms"]:List Str))from by decide +kernel))) (λ_ _ _ _ _=>cv) (λ_ _ _ _ _=>(af (mc' (ab (mv' 1) (mv' 0)) (mc' (ab (mv' 2) (mv' 0)) mn'))))) mn')))
   (aa (ah (af (mc' (ab (mv' 3) mh') (mc' (mv' 7) (mc' (jd (bH hr.units) (mf' G (hr.mono (by decide)) (mc' (mv' 0) (mc' mh' mn'))) mh' (aG _)) mn'))))))))))),?_⟩
 case ar=>intro as Kc ⟨fd,c,M,rfl,_⟩;rfl
 intro as Kc hl ⟨fd,c,M,rfl,⟨hne,hml,hms⟩,C,hc,k⟩;have hm0:0<M.length:=List.length_pos_iff.mpr hne;refine ai (MSt.mk [some (.obj 0),some (.imm (.list (M.map lnD))),none,none,none,none,none,none] [fd] 1) rfl ?_;ext s;rw[gE];refine⟨fd,_,_,rfl,C,by omega,by omega,by omega,λi fd hi0 hi1 C=>?_⟩;let⟨i,rfl⟩:=abt hi0;let⟨rs,L⟩:∃rs,M[i]?=some rs:=⟨_,iO (show i<M.length by omega)⟩;let⟨r1,r4,hr⟩:=hms rs (oR L);ext n;refine t3 (d:=lnD rs) (aB (by rw[GE,L];rfl)) ?_;ext s;dsimp only[lnD];ext s;rw[aq];refine⟨fd,_,rs.length,rfl,C,by omega,r4,λns S fd Z U B hS2 hSs C=>?_⟩;ext n;ext g;refine cE ?_;let⟨p0,u,rfl⟩:∃p0 u,ns=p0::u:=by
  cases ns with
  |nil=>simp at Z
  |cons p0 u=>exact⟨p0,u,rfl⟩
 have V:u.length=rs.length:=by simpa using Z
 have h0:=U p0 Io;have I:∀p∈u,1≤p/\p≤1600:=λp hp=>U p (Ge _ hp);have W:cutD (((p0::u).map (cutN S)).map prD) (some 1) none=(u.map (cutN S)).map prD:=by
  rw[show(1:Int)=((1:Nat):Int)from rfl,kw];rfl
 rw[W];ext n;refine vp ?_;refine x_JS (λm=>∃(g:List Nat) (o:List Nat) (a b:Option L2.R) (X:List dL),m=MSt.mk [some (.obj 0),some (.imm (.list (M.map lnD))),some (.imm (.tuple (natD g))),some (.obj 1),some (.obj 2),a,b,none] [X,((p0::u).map (cutN S)).map prD,(o.map (cutN S)).map prD] 1/\TapeD (c+12) X/\g.length=rs.length/\o.length=rs.length/\(∀r∈g,1≤r/\r≤6)/\(∀p∈o,1≤p/\p≤1600)/\o.sum≤u.sum/\g∈altR M) (λN J=>?_) ?_
 .ext s;refine⟨fd,_,_,rfl,C,by omega,by omega,by omega,λq1 fd hq0 hq1 C=>?_⟩;ext x;refine aH (λz=>?_) (λz=>?_)
  .ext s;let⟨F,rt,rfl⟩:∃F rt,rs=F::rt:=by
    cases rs with
    |nil=>simp at r1
    |cons F rt=>exact⟨F,rt,rfl⟩
   let⟨v,st,rfl⟩:∃v st,u=v::st:=by
    cases u with
    |nil=>simp at V
    |cons v st=>exact⟨v,st,rfl⟩
   have ec1:cutD (natD (F::rt)) none (some 1)=[.int (F:Int)]:=by
    rw[show(1:Int)=((1:Nat):Int)from rfl,kl];rfl
   rw[ec1,aq];generalize hn:(F::rt).length=n at *;refine DQ (by omega) (by omega) (by simp;omega) ?_;rw[aaM,ut,BR];ext s;refine ml (d:=prD (cutN S v)) rfl (show atI (((v::st).map (cutN S)).map prD) 0=some (prD (cutN S v))from aB (j:=0) (xs:=((v::st).map (cutN S)).map prD) rfl) ?_;ext s;refine zd (λz m=>∃(q:Nat) (b:Option dL),m=MSt.mk [some (.obj 0),some (.imm (.list (M.map lnD))),some (.imm (.tuple (natD (aai n F)))),some (.obj 1),some (.obj 2),some (.imm (prD (cutN S q))),b.map L2.R.imm,none] [fd,((p0::v::st).map (cutN S)).map prD,((v::st).map (cutN S)).map prD] 3/\q∈v::st/\∀x∈(v::st).take z,q≤x) ?_ ?_ ?_ ?_
   .exact⟨v,none,rfl,Io,λ_ h=>by cases h⟩
   .rintro z m ⟨q,b,rfl,_⟩;rfl
   .rintro z d m ez nz ⟨q,b,rfl,hq,hmn⟩ D2 hD2;let⟨p',ep',rfl,hz⟩:=gmap ez;let⟨p,R,rfl,hz'⟩:=gmap ep';have b1:=I p (oR R);have b2:=I q hq;have c1:=oA (b:=S) (p:=p) b1.1 (by omega) B (by omega);have c2:=oA (b:=S) (p:=q) b2.1 (by omega) B (by omega);have lt:=Mr (S:=S) (p:=p) (q:=q) B;have tk:∀y,(∀x∈(v::st).take z,y≤x)->y≤p->∀x∈(v::st).take (z+1),y≤x:=λy h1 h2 x O=>by
     rw[aaQ,R]at O;obtain O|O:=aaO.mp O
     .exact h1 x O
     .rw[aab.mp O];exact h2
    dsimp only[prD];ext s;refine aH (λz=>?_) (λz=>?_)
    .ext s;have hlt:=lt.mp (agv.mp (by rw[aap,aap];exact z));exact hD2 _ ⟨p,some (prD (cutN S p)),rfl,oR R,tk p (λx O=>aak (aaN hlt) (hmn x O)) (Ad _)⟩
    .ext s;refine hD2 _ ⟨q,some (prD (cutN S p)),rfl,hq,tk q hmn (Nat.le_of_not_lt λy=>z ?_)⟩;have:=agv.mpr (lt.mpr y);rwa[aap,aap]at this
   .rintro m hm ⟨q,b,rfl,hq,hmn⟩;rw[gE,gE,Ld]at hmn;ext s;rw[aq,acf];refine J8 (by omega) (by omega) (by simp;omega) ?_;rw[aaM,ut];refine md (k:=2) rfl (show 1≤2 by decide) (λj hj=>?_) (J _ ⟨aai n F,aai n q,some (.imm (prD (cutN S q))),b.map L2.R.imm,fd,by rw[afy,afy];rfl,C.mono (by omega),by rw[acf],by rw[acf],λr Q=>?_,λp hp=>?_,?_,?_⟩)
    .match j with
     |0|1|2|3|5|7=>exact λz=>by cases z
     |6=>cases b with
      |none=>exact λz=>by cases z
      |some b=>exact λz=>by cases z
     |4=>exact(hj rfl).elim
     |n+8=>exact λz=>by cases z
    .rw[afU Q];exact hr F Io
    .rw[afU hp];exact I q hq
    .exact l4 (by omega) hmn
    .refine abB.mpr ⟨F::rt,oR L,?_⟩;rw[hn];exact Ge _ Io
  .ext s;exact J _ ⟨rs,u,none,none,fd,rfl,C.mono (by omega),rfl,V,hr,I,Ad _,abB.mpr ⟨rs,oR L,Io⟩⟩
 intro _ ⟨g,o,a,b,fd,rfl,C,hrl,hsl',Q,Y,hsum,hal⟩;ext x;rw[aq];ext d;rw[aaM];ext n;refine bz (λz m=>∃a,m=MSt.mk [a,some (.obj 2),some (.imm (.tuple (natD g)))] [fd,((p0::u).map (cutN S)).map prD,(o.map (cutN S)).map prD,((adK (srvS S) o g).take z).map Srv.d] 4) ⟨none,rfl⟩ ?_ ?_
 .rintro z d m e hz ⟨a,rfl⟩ D1 hD1 hR1;let⟨hi,rfl⟩:=bQ e;let⟨r,er⟩:∃r,g[z]?=some r:=⟨_,iO (by omega)⟩;let⟨p,R⟩:∃p,o[z]?=some p:=⟨_,iO (by omega)⟩;rw[show(0:Int)+(z:Int)=((z:Nat):Int) by omega];ext s;refine ml (d:=prD (cutN S p)) rfl (aB (by rw[GE,GE,R];rfl)) ?_;ext s;refine aE (aB (aF er)) ?_;ext s;refine⟨_,rfl,by rw[aag,gE,aaB];omega,hD1 _ ⟨some (.imm (.int (z:Int))),?_⟩⟩;rw[aaQ,acv.mpr ⟨p,r,R,er,rfl⟩,aaE];rfl
 .rintro m hm ⟨a',rfl⟩;have ezl:(adK (srvS S) o g).length=g.length:=by rw[ahc];omega
  rw[aC,<-ezl,Ld];ext s;refine ml (d:=prD (cutN S p0)) rfl (show atI (((p0::u).map (cutN S)).map prD) 0=some (prD (cutN S p0))from aB (j:=0) (xs:=((p0::u).map (cutN S)).map prD) rfl) ?_;ext s;refine⟨fd,_,_,rfl,C,by omega,by omega,by omega,λq fd hq0 hq1 C=>?_⟩;ext x;have c0:=oA (b:=S) (p:=p0) h0.1 (by omega) B (by omega);rw[aco]at hSs;refine k (vO S p0 o g (decide (q=0))) S fd ⟨c0.1,c0.2.1,c0.2.2.1,c0.2.2.2,by show 1≤(adK (srvS S) o g).length;omega,by show(adK (srvS S) o g).length≤4;omega,λs hs=>?_⟩ (BZ B hS2 (by omega) (by omega)) (by rw[AH (by omega)];exact hal) (C.mono (by omega));let⟨i,hi⟩:=acZ hs;let⟨p,r,e1,e2,rfl⟩:=acv.mp hi;have hp:=Y p (oR e1);exact AL (oA (b:=S) (p:=p) hp.1 (by omega) B (by omega)) (Q r (oR e2))
theorem jx(T:Bl K mg)(D:DefM K mg "_law_all_lines" cr ["_law_hall_here"]):FnM P w K mg base "_law_all_lines" 1 1 C9:=by
 refine aP D bi rfl (nN:=6) rfl (by decide) ?ar λG A outer s H E f hr=>⟨_,(mz' (ak 1 bi.nd (bZ (mc' (af mn') mn')))
   (mz' (bq (bC (ab (mv' 0) mh')) (bo (n:=2) (ag (al 2 bi.nd) (ag (al 3 bi.nd) aY))) (mz' (ak 4 bi.nd (bZ mn'))
   (mz' (bq (bC (mv' 1)) (n6 (i:=5) bi.nd rfl (ada rfl)) (aa (fc (jt afV afW l6 (mv' 4) (mc' (ce (own:=["_law_many"]) (fr:=["_law_lines"]) (ps:=[5]) (sc:=(ac cr)) (by exact⟨rfl,by decide +kernel,by decide +kernel,by decide +kernel,by decide +kernel⟩) (bv (by rfl) T.range (mc' (ae aQ (mv' 3) mh') mn')) (λ_ _ _ _ _=>(al 0 (show ab8 ((["_law_many"]:List Str)++(["_law_lines"]:List Str))from by decide +kernel))) (λ_ _ _ _ _=>cv) (λ_ _ _ _ _=>(ae aQ (mv' 1) (af (mc' (mv' 0) mn'))))) mn')))) aau)
   (aa (ak 1 bi.nd (mv' 4))))) aau)
   (aa (ah (mv' 1))))),?_⟩
 case ar=>intro as J ⟨h,rfl,_⟩;rfl
 intro as J M ⟨h,rfl,ho,k⟩;refine ai (MSt.mk [some (.imm (.tuple [.tuple [.int h.a,.int h.b],.tuple (h.ss.map Srv.d),.bool h.mv])),none,none,none,none,none] [] 0) rfl ?_;ext s;ext g;refine d6 (λi m=>∃a b c,m=MSt.mk [some (.imm (.tuple [.tuple [.int h.a,.int h.b],.tuple (h.ss.map Srv.d),.bool h.mv])),some (.obj 0),a,b,none,c] [(((h.rs.take i).foldl M3.stepL [[]]).map lnD)] 0) ⟨none,none,none,rfl⟩ ?_ ?_
 .rintro i d m e n ⟨a,b,c,rfl⟩;let⟨s,q,rfl,L⟩:=gmap e;have r1:=(ho.ok s (oR q)).r1;have r6:=(ho.ok s (oR q)).r6;have C:=h.rsl;generalize g:(h.rs.take i).foldl M3.stepL [[]]=p;have u:∀a∈p,a.length≤4:=by
   intro a ha;rw[<-g]at ha;have:=M3.allR_len (by rw[<-M3.allL_eq];exact ha);rw[this,aaB];have:=ho.n4;omega
  have F:p.length≤2401:=by
   rw[<-g];exact M3.fold_small (by rw[aaB];have:=ho.n4;omega) (λr hr=>ho.r6 r (acW hr))
  have o:((h.rs.take (i+1)).foldl M3.stepL [[]])=M3.stepL p s.r:=by
   rw[aaQ,Hall.rs_get q,ady,g];rfl
  rw[o];ext h
  .rfl
  ext s;ext g;refine je (λi m=>∃a,m=MSt.mk [some (.imm (.tuple [.tuple [.int h.a,.int h.b],.tuple (h.ss.map Srv.d),.bool h.mv])),some (.obj 0),some (.imm (.tuple [.int s.a,.int s.b])),some (.imm (.int s.r)),some (.obj 1),a] [p.map lnD,(M3.stepL (p.take i) s.r).map lnD] 1) ⟨c,rfl⟩ ?_ ?_ ?_
  .rintro j m ⟨a,rfl⟩;rfl
  .rintro j d m ej nj ⟨a,rfl⟩;let⟨l,v,rfl,N⟩:=gmap ej;have I:=u l (oR v);ext s;ext d;have B:((s.r:Int)+1).toNat=s.r+1:=by omega
   rw[B];ext n;refine bz (λz m=>∃b,m=MSt.mk [b,some (.imm (lnD l))] [p.map lnD,(M3.stepL (p.take j) s.r).map lnD,((aaw z).map λy=>l++[y]).map lnD] 3) ⟨none,rfl⟩ ?_ ?_
   .rintro z dz m ez nz ⟨b,rfl⟩ D1 hD1 hR1;let⟨x,rfl⟩:=bQ ez;ext s;refine kL (by rw[aag,aq];simp;omega) ?_;ext s;refine⟨_,rfl,by rw[aag];simp;omega,hD1 _ ⟨some (.imm (.int (0+(z:Int)))),?_⟩⟩;have t:((aaw (z+1)).map λy=>l++[y]).map lnD=((aaw z).map λy=>l++[y]).map lnD++[.tuple (natD l++[.int (0+(z:Int))])]:=by
     rw[acU];simp[lnD,natD]
    rw[t];rfl
   .rintro m n ⟨b,rfl⟩;rw[aC];ext s;have x:((M3.stepL (p.take j) s.r).map lnD).length+(((aaw (s.r+1)).map λy=>l++[y]).map lnD).length≤aad:=by
     rw[aag,gE,gE,gE,aaW,M3.stepL_length,aaB];have:min j p.length*(s.r+1)≤2401*7:=aby (by omega) (by omega);omega
    refine' BQ (ds:=(M3.stepL (p.take j) s.r).map lnD) ?eb x ?_
    case eb=>rfl
    have t:(M3.stepL (p.take (j+1)) s.r).map lnD=(M3.stepL (p.take j) s.r).map lnD++((aaw (s.r+1)).map λy=>l++[y]).map lnD:=by
     rw[M3.stepL_take v,aaE]
    rw[t];exact⟨_,rfl⟩
  .rintro m n ⟨a,rfl⟩;rw[gE,Ld];ext n;refine MJ ?_;refine Ji rfl ?_;refine qL [1] (MSt.mk [some (.imm (.tuple [.tuple [.int h.a,.int h.b],.tuple (h.ss.map Srv.d),.bool h.mv])),some (.obj 0),some (.imm (.tuple [.int s.a,.int s.b])),some (.imm (.int s.r)),none,none] [(M3.stepL p s.r).map lnD] 0) (FJ rfl rfl rfl rfl rfl rfl ⟨rfl,⟨1,rfl,rfl⟩,rfl,rfl,trivial,trivial,trivial⟩) ⟨_,_,_,rfl⟩
 .rintro m n ⟨a,b,c,rfl⟩;rw[gE,<-h.rsl,Ld,show h.rs.foldl M3.stepL [[]]=M3.allL h.rs from rfl,M3.allL_eq];ext s;exact k
theorem sx(T:Bl K mg)(D:DefM K mg "_law_rule" gn ["_law_tape_here","_law_hall_here"])(b:FnM P w K mg base "_law_draw" 1 2 kM)(G:FnM P w K mg base "_law_all_lines" 1 1 C9):FnM P w K mg base "_law_rule" 2 2 yh:=by
 refine aP D k9 rfl (nN:=3) rfl (by decide) ?ar λI A outer s H E f hr=>⟨_,(mz' (ak 2 k9.nd (ab (bZ (mc' aK (mc' aK (mc' aK (mc' aK (mc' aK (mc' aK mn'))))))) (mf' b (hr.mono (by decide)) (mc' (mv' 0) (mc' mh' mn')))))
   (mz' (bc (av (qW hr.units) (mv' 2) aK (aG _)) (aa (ah (af (mc' (mv' 2) mn')))) aw)
   (aa (ah (af (mc' (mv' 2) (mc' (cp de (by rfl) T.tuple h8 (mc' (ce (own:=["_law_lines"]) (fr:=["_law_tape_here","_law_hall_here"]) (ps:=[0,1]) (sc:=(ac gn)) (by exact⟨rfl,by decide +kernel,by decide +kernel,by decide +kernel,by decide +kernel⟩) (bC (fz (mf' G (hr.mono (by decide)) (mc' (mv' 1) mn')))) (λ_ _ _ _ _=>(al 0 (show ab8 ((["_law_lines"]:List Str)++(["_law_tape_here","_law_hall_here"]:List Str))from by decide +kernel))) (λ_ _ _ _ _=>cv) (λ_ _ _ _ _=>(mf' b (hr.mono (by decide)) (mc' (mv' 1) (mc' (ap aV (by rfl) T.len cq (mc' (ab (mv' 2) mh') mn')) mn'))))) mn')) mn'))))))),?_⟩
 case ar=>intro as L ⟨fd,c,h,rfl,_⟩;rfl
 intro as L U ⟨fd,c,h,rfl,ho,o,V,k⟩;have n1:=ho.n1;have n4:=ho.n4;refine ai (MSt.mk [some (.obj 0),some (.imm (.tuple [.tuple [.int h.a,.int h.b],.tuple (h.ss.map Srv.d),.bool h.mv])),none] [fd] 1) rfl ?_;ext s;refine⟨fd,_,c,rfl,o,by omega,by decide,by decide,λr fd C N o=>?_⟩;ext x;have g:∀(q:Rule) (x:Str),atI [afw "random",.str "two",.str "least",.str "quick",.str "turns",.str "told"] r=some (.str x)->q.d = .tuple [.str x]->q.Ok h->x ≠ "told" -> ∃d,atI [afw "random",.str "two",.str "least",.str "quick",.str "turns",.str "told"] r=some d/\((∃x q,d = .str x/\x ≠ "told"/\Rule.d q = .tuple [.str x]/\q.Ok h)\/d = .str "told"):=λq x Q F S M=>⟨_,Q,.inl ⟨x,q,rfl,M,F,S⟩⟩;let⟨d,O,hd⟩:∃d,atI [afw "random",.str "two",.str "least",.str "quick",.str "turns",.str "told"] r=some d/\((∃x q,d = .str x/\x ≠ "told"/\Rule.d q = .tuple [.str x]/\q.Ok h)\/d = .str "told"):=by
  rcases (show r=0\/r=1\/r=2\/r=3\/r=4\/r=5 by omega)with rfl|rfl|rfl|rfl|rfl|rfl
  .exact g .random "random" rfl rfl trivial (by decide +kernel)
  .exact g .two "two" rfl rfl trivial (by decide +kernel)
  .exact g .least "least" rfl rfl trivial (by decide +kernel)
  .exact g .quick "quick" rfl rfl trivial (by decide +kernel)
  .exact g .turns "turns" rfl rfl trivial (by decide +kernel)
  .exact⟨_,rfl,.inr rfl⟩
 refine fZ O ?_;rcases hd with⟨x,q,rfl,R,eq,B⟩|rfl
 .ext s;rw[decide_eq_false R];refine jW ?_;ext s;rw[<-eq];exact k q fd B (o.mono (by omega))
 .ext s;rw[decide_eq_true rfl];refine gH ?_;ext s;refine⟨h,rfl,ho,?_⟩;ext x;ext n;have J:(M3.allR h.rs).length≤2401:=gg (by rw[h.rsl];exact n4) ho.r6;refine d6 (λi m=>∃a j ps,m=MSt.mk [a,some (.obj 0),some (.imm (.tuple [.tuple [.int h.a,.int h.b],.tuple (h.ss.map Srv.d),.bool h.mv]))] [j,natD ps] 2/\TapeD (c+1+i) j/\ps.length=i/\∀p∈ps,p<h.ss.length) ⟨none,fd,[],rfl,o,rfl,λ_ h=>by cases h⟩ ?_ ?_
  .rintro i d m e n ⟨a,j,ps,rfl,hf',hpl,hps⟩;let⟨l,X,rfl,W⟩:=gmap e;ext s;refine⟨j,_,_,rfl,hf',by omega,by rw[gE];omega,by rw[gE];omega,λp v t u y=>?_⟩;rw[gE]at u;ext x;let⟨pn,rfl⟩:=abt t;refine⟨_,rfl,by rw[aag,aq];omega,_,v,ps++[pn],by rw[uR];rfl,y,by simp;omega,λp hp=>?_⟩;obtain z|z:=aaO.mp hp
   .exact hps p z
   .simp at z;subst z;omega
  .rintro m n ⟨a,j,ps,rfl,hf',hpl,hps⟩;rw[gE]at hf' hpl;ext s;exact k (.told ps) j ⟨hpl,hps⟩ (hf'.mono (by omega))
theorem nu(T:Bl K mg)(D:DefM K mg "_law_orders" dI ["_law_many"]):FnM P w K mg base "_law_orders" 1 1 Fw:=by
 refine aP D bX rfl (nN:=5) rfl (by decide) ?ar λC A outer s H E f hr=>⟨_,(mz' (ak 1 bX.nd (bZ (mc' (af mn') mn')))
   (mz' (bq (bv (by rfl) T.range (mc' (mv' 0) mn')) (al 2 bX.nd) (mz' (ak 3 bX.nd (bZ mn'))
   (mz' (bq (bC (mv' 1)) (n6 (i:=4) bX.nd rfl (ada rfl)) (aa (fc (jt afV afW l6 (mv' 3) (mc' (ce (own:=["_law_k"]) (fr:=["_law_order"]) (ps:=[4]) (sc:=(ac dI)) (by exact⟨rfl,by decide +kernel,by decide +kernel,by decide +kernel,by decide +kernel⟩) (bv (by rfl) T.range (mc' (mv' 0) mn')) (λ_ _ _ _ _=>(al 0 (show ab8 ((["_law_k"]:List Str)++(["_law_order"]:List Str))from by decide +kernel))) (λ_ _ _ _ _=>(uY (av (k7 hr.units) (mv' 0) (mv' 1) (by with_unfolding_all rfl)))) (λ_ _ _ _ _=>(ae aQ (mv' 1) (af (mc' (mv' 0) mn'))))) mn')))) aau)
   (aa (ak 1 bX.nd (mv' 3))))) aau)
   (aa (ah (mv' 1))))),?_⟩
 case ar=>intro as I ⟨n,rfl,_⟩;rfl
 intro as I L ⟨n,rfl,n4,k⟩;refine ai (MSt.mk [some (.imm (.int (n:Int))),none,none,none,none] [] 0) rfl ?_;ext s;ext g;ext d;rw[aaM];refine d6 (λi m=>∃a b,m=MSt.mk [some (.imm (.int (n:Int))),some (.obj 0),a,none,b] [(ordK n i).map lnD] 0) ⟨none,none,rfl⟩ ?_ ?_
 .rintro i d m e hnp ⟨a,b,rfl⟩;let⟨J,rfl⟩:=bQ e;let⟨j,h⟩:=cn n n4 i (by omega);have g:=gw n n4 i (by omega);rw[show ordK n (i+1)=gL n (ordK n i)from rfl];generalize ordK n i=os at j h g;ext s;ext g;refine je (λz m=>∃c d,m=MSt.mk [some (.imm (.int (n:Int))),some (.obj 0),c,some (.obj 1),d] [os.map lnD,(gL n (os.take z)).map lnD] 1) ⟨_,_,rfl⟩ ?_ ?_ ?_
  .rintro z m ⟨c,d,rfl⟩;rfl
  .rintro z d m ez nz ⟨c,d',rfl⟩;let⟨l,o,rfl,M⟩:=gmap ez;let⟨F,B⟩:=h l (oR o);have v:=(DL.mp o).1;have t:=g z (by omega);ext s;ext d;rw[aaM];ext n;refine d6 (λy m=>∃c,m=MSt.mk [c,some (.imm (lnD l))] [os.map lnD,(gL n (os.take z)).map lnD,(((aaw y).filter λq=>!l.contains q).map λq=>l++[q]).map lnD] 3) ⟨none,rfl⟩ ?_ ?_
   .rintro y d m ey ny ⟨c,rfl⟩;let⟨N,rfl⟩:=bQ ey;rw[show(0:Int)+(y:Int)=((y:Nat):Int) by omega];have r:(natD l).any (λx=>aah x (.int (y:Int)))=l.contains y:=by
     rw[acz,agc];rw[agH];constructor
     .rintro⟨x,hx,ex⟩;let⟨w,G,rfl⟩:=aae.mp hx;rw[ca]at ex;rw[<-of_decide_eq_true ex];exact G
     .intro hm;exact⟨_,aae.mpr ⟨y,hm,rfl⟩,by rw[ca];exact decide_eq_true rfl⟩
    have u:(((aaw y).filter λq=>!l.contains q).map λq=>l++[q]).length≤4:=by
     rw[gE];have:=aeC (λq=>!l.contains q) (aaw y);rw[aaW]at this;omega
    ext s;refine x_in (d:=.int (y:Int)) (ds:=natD l) rfl (.inr rfl) (fj _) (fi l) (by decide) ?_;ext s;rw[r];rw[acU,ahw,aaE,aaE]
    cases hc:l.contains y with
    |true=>
     refine gH ?_;ext s;refine⟨some (.imm (.int (y:Int))),?_⟩;rw[show([y].filter λq=>!l.contains q)=[] by rw[aeM,hc];rfl,adI,adI,aa7];rfl
    |false=>
     refine jW ?_;ext s;refine kL (by rw[aag,aq];simp;omega) ?_;ext s;refine⟨_,rfl,by rw[aag,gE];omega,some (.imm (.int (y:Int))),?_⟩;rw[show([y].filter λq=>!l.contains q)=[y] by rw[aeM,hc];rfl];simp[lnD,natD,MSt.setV]
   .rintro m ny ⟨c,rfl⟩;rw[aC];ext x;have p:=lM (n:=n) o;refine⟨_,rfl,by show((gL n (os.take z)).map lnD).length+((((aaw n).filter λq=>!l.contains q).map λq=>l++[q]).map lnD).length≤aad;rw[aag,gE,gE,gE];have:=aeC (λq=>!l.contains q) (aaw n);rw[aaW]at this;omega,?_⟩;rw[p,aaE];exact⟨_,_,rfl⟩
  .rintro m nz ⟨c,d',rfl⟩;rw[gE,Ld];ext n;refine MJ (Ji rfl (qL [1] (MSt.mk [some (.imm (.int (n:Int))),some (.obj 0),none,none,none] [(gL n os).map lnD] 0) (FJ rfl rfl rfl rfl rfl rfl ⟨rfl,⟨1,rfl,rfl⟩,trivial,trivial,trivial,trivial⟩) ⟨_,_,rfl⟩))
 .rintro m hnp ⟨a,b,rfl⟩;rw[aC];ext s;exact k
theorem lr(T:Bl K mg)(D:DefM K mg "_law_soonest" fw ["_law_hall_here","_law_lines","_law_order"]):FnM P w K mg base "_law_soonest" 1 3 qU:=by
 refine aP D bA rfl (nN:=8) rfl (by decide) ?ar λJ A outer s H E f hr=>⟨_,(mz' (ak 3 bA.nd (ab (mv' 2) mh'))
   (mz' (bq (bC (mv' 2)) (al 4 bA.nd) (mz' (ak 5 bA.nd (ab (ab (ab (mv' 0) mh') (mv' 4)) mh'))
   (mz' (ak 6 bA.nd (ab (ab (ab (mv' 0) mh') (mv' 3)) mh'))
   (mz' (ak 7 bA.nd (ae aA (ae aA (ae aQ (ab (mv' 1) (mv' 4)) mh') (ab (mv' 5) mh')) (ab (mv' 6) mh')))
   (aa (bc (av jk (mv' 7) (ae aA (ae aA (ae aQ (ab (mv' 1) (mv' 3)) mh') (ab (mv' 6) mh')) (ab (mv' 5) mh')) (aG _)) (aa (ak 3 bA.nd (mv' 4))) aw))))) aau)
   (aa (ah (mv' 3))))),?_⟩
 case ar=>intro as N ⟨h,l,o,rfl,_⟩;rfl
 intro as N Q ⟨h,l,o,rfl,ho,t,B,k⟩;let⟨p,os,rfl,h0⟩:=B.cons;refine ai (MSt.mk [some (.imm (.tuple [.tuple [.int h.a,.int h.b],.tuple (h.ss.map Srv.d),.bool h.mv])),some (.imm (.tuple (natD l))),some (.imm (.tuple (natD (p::os)))),none,none,none,none,none] [] 0) rfl ?_;ext s;refine aE (aB (j:=0) (aF rfl)) ?_;ext s;refine bz (λi m=>∃a b c d,m=MSt.mk [some (.imm (.tuple [.tuple [.int h.a,.int h.b],.tuple (h.ss.map Srv.d),.bool h.mv])),some (.imm (.tuple (natD l))),some (.imm (.tuple (natD (p::os)))),some (.imm (.int (M7.pick (bO h l) p ((p::os).take i):Nat))),a,b,c,d] [] 0) ⟨none,none,none,none,rfl⟩ ?_ ?_
 .rintro i d m e n ⟨a,b,c,d',rfl⟩ D1 hD1 hR1;let⟨j,G,rfl,O⟩:=gmap e;have F:=B.lt j (oR G);have hb:M7.pick (bO h l) p ((p::os).take i)<h.ss.length:=f8 B i;have M:(p::os).take (i+1)=(p::os).take i++[j]:=by rw[aaQ,G];rfl
  rw[M,M7.pick_app]at hD1;generalize M7.pick (bO h l) p ((p::os).take i)=b at hb hD1⊢;let⟨s,I,L,eb,hs⟩:=h.srv F;let⟨g,v,y,C,x⟩:=h.srv hb;have so:=ho.ok s hs;have u:=ho.ok g x;have R:=so.a2;have X:=so.b2;have S:=u.a2;have V:=u.b2;have W:=t.le ho _ (oR (getN t.1 F));have U:=t.le ho _ (oR (getN t.1 hb));have m1:(l.getD j 0+1)*s.b≤7*1000000:=aby (by omega) (by omega);have m2:(l.getD b 0+1)*g.b≤7*1000000:=aby (by omega) (by omega);ext s;refine aE (d:=s.d) (aB (by rw[GE,I];rfl)) ?_;ext h;refine aE (d:=g.d) (aB (by rw[GE,v];rfl)) ?_;ext h;refine aE (aB (aF (getN t.1 F))) ?_;ext s;refine aE (aB (aF (getN t.1 hb))) ?_;ext s;have eq:bO h l j b=decide ((l.getD j 0+1)*s.b*g.a<(l.getD b 0+1)*g.b*s.a):=by unfold bO;rw[L,eb,y,C]
  have r:(((l.getD j 0:Int)+1)*(s.b:Int)*(g.a:Int)<((l.getD b 0:Int)+1)*(g.b:Int)*(s.a:Int))↔((l.getD j 0+1)*s.b*g.a<(l.getD b 0+1)*g.b*s.a):=by
   rw[show((l.getD j 0:Int)+1)*(s.b:Int)*(g.a:Int)=(((l.getD j 0+1)*s.b*g.a:Nat):Int) by rw[aap,aap,ab0];rfl,show((l.getD b 0:Int)+1)*(g.b:Int)*(s.a:Int)=(((l.getD b 0+1)*g.b*s.a:Nat):Int) by rw[aap,aap,ab0];rfl];exact agv
  refine aH (λq=>?_) (λq=>?_)
  .ext s;rw[if_pos (show bO h l j b=true by rw[eq];exact decide_eq_true (r.mp q))]at hD1;exact hD1 _ ⟨_,_,_,_,rfl⟩
  .ext s;rw[if_neg (show ¬bO h l j b=true by rw[eq,decide_eq_true_eq];exact λz=>q (r.mpr z))]at hD1;exact hD1 _ ⟨_,_,_,_,rfl⟩
 .rintro m n ⟨a,b,c,d,rfl⟩;rw[aq,Ld];ext s;exact k
theorem sF(T:Bl K mg)(D:DefM K mg "_law_sent" jh ["_law_hall_here","_law_rule_here","_law_stand","_law_order"])(G:FnM P w K mg base "_law_all_lines" 1 1 C9)(g:FnM P w K mg base "_law_soonest" 1 3 qU):FnM P w K mg base "_law_sent" 2 4 jF:=by
 refine aP D bV rfl (nN:=9) rfl (by decide) ?ar λS A outer s H E f hr=>⟨_,(mz' (cC (mv' 2) (bo (n:=2) (ag (al 4 bV.nd) (ag (al 5 bV.nd) aY))))
   (mz' (bc (av (bH hr.units) (ab (mv' 1) mh') aK (aG _)) (aa (ah (ab (mv' 3) mh'))) aw)
   (mz' (bc (av (bH hr.units) (ab (mv' 1) mh') aK (aG _)) (aa (ah (mv' 5))) aw)
   (mz' (bc (av (bH hr.units) (ab (mv' 1) mh') aK (aG _)) (aa (ah (ab (ab (mv' 1) mh') (jt af2 PySem.F.type_list_index (yA hr.units) (mf' G (hr.mono (by decide)) (mc' (mv' 0) mn')) (mc' (mv' 4) mn'))))) aw)
   (mz' (bc (av (bH hr.units) (ab (mv' 1) mh') aK (aG _)) (aa (ah (mf' g (hr.mono (by decide)) (mc' (mv' 0) (mc' (mv' 4) (mc' (mv' 3) mn')))))) aw)
   (mz' (ak 6 bV.nd (mv' 3))
   (mz' (bc (av (bH hr.units) (ab (mv' 1) mh') aK (aG _)) (aa (ak 6 bV.nd (cA fy (mv' 3) cV (cW mh')))) aw)
   (mz' (ak 7 bV.nd (ab (mv' 6) mh'))
   (mz' (bq (bC (mv' 6)) (al 8 bV.nd) (aa (bc (av jk (ab (mv' 4) (mv' 8)) (ab (mv' 4) (mv' 7)) (aG _)) (aa (ak 7 bV.nd (mv' 8))) aw)) aau)
   (aa (ah (mv' 7)))))))))))),?_⟩
 case ar=>intro as O ⟨h,r,l,t,o,rfl,_⟩;rfl
 intro as O U ⟨h,r,l,t,o,rfl,ho,F,x,B,k⟩;have I:=x.1;have q:Ord l.length o:=by rw[I];exact B
 cases r with
 |random=>
  refine ai (MSt.mk [some (.imm h.d),some (.imm (.tuple [.str "random"])),some (.imm (.tuple [lnD l,.int (t:Int)])),some (.imm (.tuple (natD o))),none,none,none,none,none] [] 0) rfl ?_;ext s
  .rfl
  ext s;ext e;let⟨c,os,rfl,h0⟩:=B.cons;ext s;refine aE (aB (j:=0) (aF rfl)) ?_;ext s;exact k
 |turns=>
  refine ai (MSt.mk [some (.imm h.d),some (.imm (.tuple [.str "turns"])),some (.imm (.tuple [lnD l,.int (t:Int)])),some (.imm (.tuple (natD o))),none,none,none,none,none] [] 0) rfl ?_;ext s
  .rfl
  ext s;ext b;exact k
 | told Q=>
  refine ai (MSt.mk [some (.imm h.d),some (.imm (.tuple [.str "told",.tuple (natD Q)])),some (.imm (.tuple [lnD l,.int (t:Int)])),some (.imm (.tuple (natD o))),none,none,none,none,none] [] 0) rfl ?_;ext s
  .rfl
  ext a;ext e;ext s;refine⟨h,rfl,ho,?_⟩;ext x;have hp:=M7.place_at x.fits;refine Jo (k':=1) (j:=M7.placeF 0 h.rs l) (y:=lnD l) rfl (y4 l) (λy J=>?_) (by decide) (by rw[GE,hp];rfl) (by rw[zt];exact decide_eq_true rfl) (λi y N J=>?_) ?_
  .obtain⟨l',_,rfl⟩:=aae.mp J;exact y4 l'
  .obtain⟨l',el,rfl,_⟩:=gmap J;rw[zt];refine decide_eq_false λz=>?_;subst z;have:=M7.place_only el;omega
  .ext n;have C:M7.placeF 0 h.rs l<Q.length:=by rw[F.1,M7.allR_cnt];exact M7.place_lt x.fits
   refine aE (aB (aF (getN rfl C))) ?_;exact k
 |quick=>
  refine ai (MSt.mk [some (.imm h.d),some (.imm (.tuple [.str "quick"])),some (.imm (.tuple [lnD l,.int (t:Int)])),some (.imm (.tuple (natD o))),none,none,none,none,none] [] 0) rfl ?_;ext s
  .rfl
  ext a;ext b;refine⟨h,l,o,rfl,ho,x,B,?_⟩;ext n;exact k
 | least=>
  refine ai (MSt.mk [some (.imm h.d),some (.imm (.tuple [.str "least"])),some (.imm (.tuple [lnD l,.int (t:Int)])),some (.imm (.tuple (natD o))),none,none,none,none,none] [] 0) rfl ?_;ext s
  .rfl
  ext a;ext c;ext s;ext c;ext s;ext c;let⟨c,os,rfl,h0⟩:=q.cons;have u:=q;ext s;dsimp only[lnD];refine aE (aB (j:=0) (aF rfl)) ?_;ext s;refine bz (λi m=>∃a,m=MSt.mk [some (.imm h.d),some (.imm (.tuple [.str "least"])),some (.imm (.tuple [lnD l,.int (t:Int)])),some (.imm (.tuple (natD (c::os)))),some (.imm (.tuple (natD l))),some (.imm (.int (t:Int))),some (.imm (.tuple (natD (c::os)))),some (.imm (.int (M7.pick (br l) c ((c::os).take i):Nat))),a] [] 0) ⟨none,rfl⟩ ?_ ?_
  .rintro i d m e n ⟨a,rfl⟩ D1 hD1 hR1;let⟨j,v,rfl,N⟩:=gmap e;have M:=u.lt j (oR v);have hb:M7.pick (br l) c ((c::os).take i)<l.length:=f8 u i;have L:(c::os).take (i+1)=(c::os).take i++[j]:=by rw[aaQ,v];rfl
   rw[L,M7.pick_app]at hD1;generalize M7.pick (br l) c ((c::os).take i)=b at hb hD1⊢;ext s;refine aE (aB (aF (getN rfl M))) ?_;ext s;refine aE (aB (aF (getN rfl hb))) ?_;ext s;refine aH (λh=>?_) (λh=>?_)
   .ext s;rw[if_pos (show br l j b=true from decide_eq_true (by omega))]at hD1;exact hD1 _ ⟨_,rfl⟩
   .ext s;rw[if_neg (show ¬br l j b=true by unfold br;rw[decide_eq_true_eq];omega)]at hD1;exact hD1 _ ⟨_,rfl⟩
  .rintro m n ⟨a,rfl⟩;rw[aq,Ld];ext s;exact k
 | two=>
  refine ai (MSt.mk [some (.imm h.d),some (.imm (.tuple [.str "two"])),some (.imm (.tuple [lnD l,.int (t:Int)])),some (.imm (.tuple (natD o))),none,none,none,none,none] [] 0) rfl ?_;ext s
  .rfl
  ext a;ext c;ext s;ext b;have e:cutD (natD o) none (some 2)=natD (o.take 2):=by
   rw[show(2:Int)=((2:Nat):Int)from rfl,kl];simp[natD]
  rw[e];let⟨c,os,rfl,h0⟩:=B.cons;have u:Ord l.length (c::os.take 1):=⟨by simp,λk R=>q.lt k (acW (i:=2) R),by rw[aaG,aaB];omega⟩;replace k:O (.imm (.int (M7.pick (br l) c (c::os.take 1):Nat))) []:=k;ext n;generalize os.take 1=p at *;refine aE (aB (j:=0) (aF rfl)) ?_;ext s;refine bz (λi m=>∃a,m=MSt.mk [some (.imm h.d),some (.imm (.tuple [.str "two"])),some (.imm (.tuple [lnD l,.int (t:Int)])),some (.imm (.tuple (natD (c::os)))),some (.imm (.tuple (natD l))),some (.imm (.int (t:Int))),some (.imm (.tuple (natD (c::p)))),some (.imm (.int (M7.pick (br l) c ((c::p).take i):Nat))),a] [] 0) ⟨none,rfl⟩ ?_ ?_
  .rintro i d m e n ⟨a,rfl⟩ D1 hD1 hR1;let⟨j,v,rfl,N⟩:=gmap e;have M:=u.lt j (oR v);have hb:M7.pick (br l) c ((c::p).take i)<l.length:=f8 u i;have L:(c::p).take (i+1)=(c::p).take i++[j]:=by rw[aaQ,v];rfl
   rw[L,M7.pick_app]at hD1;generalize M7.pick (br l) c ((c::p).take i)=b at hb hD1⊢;ext s;refine aE (aB (aF (getN rfl M))) ?_;ext s;refine aE (aB (aF (getN rfl hb))) ?_;ext s;refine aH (λh=>?_) (λh=>?_)
   .ext s;rw[if_pos (show br l j b=true from decide_eq_true (by omega))]at hD1;exact hD1 _ ⟨_,rfl⟩
   .ext s;rw[if_neg (show ¬br l j b=true by unfold br;rw[decide_eq_true_eq];omega)]at hD1;exact hD1 _ ⟨_,rfl⟩
  .rintro m n ⟨a,rfl⟩;rw[aq,Ld];ext s;exact k
theorem sW(T:Bl K mg)(D:DefM K mg "_law_more" jf ["_law_lines","_law_k","_law_many"]):FnM P w K mg base "_law_more" 1 3 jr:=by
 refine aP D rh rfl (nN:=3) rfl (by decide) ?ar λc A outer s H E f hr=>⟨_,(aa (ah (ae aQ (ae aQ (cA fy (mv' 0) cV (cW (mv' 1))) (af (mc' (ae aQ (ab (mv' 0) (mv' 1)) (mv' 2)) mn'))) (cA fy (mv' 0) (cW (ae aQ (mv' 1) mh')) cV)))),?_⟩
 case ar=>intro as g ⟨l,j,d,x,rfl,_⟩;rfl
 intro as g i ⟨l,j,d,x,rfl,h,b,a,k⟩;refine ai (MSt.mk [some (.imm (.tuple (natD l))),some (.imm (.int (j:Int))),some (.imm (.int d))] [] 0) rfl ?_;ext s;refine aE (aB (aF (getN rfl h))) ?_;ext s;rw[a,kl];refine kL (by rw[aag,aaB,aq];simp;omega) ?_;ext s;rw[show(j:Int)+1=((j+1:Nat):Int)from rfl,kw];refine kL (by rw[aag,aaj,aaB,aeF,aq];simp;omega) ?_;ext s;have e:(natD l).take j++[.int (x:Int)]++(natD l).drop (j+1)=natD (l.set j x):=by
  rw[<-u7,aeh,if_pos (by rw[aq];exact h)];simp
 rw[e];exact k
theorem oi(T:Bl K mg)(D:DefM K mg "_law_evened" fJ ["_law_hall_here","_law_lines"])(G:FnM P w K mg base "_law_more" 1 3 jr):FnM P w K mg base "_law_evened" 2 2 oH:=by
 refine aP D fu rfl (nN:=2) rfl (by decide) ?ar λZ A outer s H E f hr=>⟨_,(mz' (ii (EW.pt (jV (t6 (ab (mv' 0) mh')) (jV (av (bH hr.units) (ap (vK rfl) (by rfl) T.min Oa (mc' (mv' 1) mn')) mh' (aG _)) (ot (av il (ap (gc rfl) (by rfl) T.max u3 (mc' (mv' 1) mn')) mh' (aG _)))))) (mz' (ak 1 fu.nd (mf' G (hr.mono (by decide)) (mc' (mv' 1) (mc' (vf acp ac6 (gu hr.units) (mv' 1) (mc' (ap (gc rfl) (by rfl) T.max u3 (mc' (mv' 1) mn')) mn')) (mc' (jX h7 mh') mn')))))
   (aa (ak 1 fu.nd (mf' G (hr.mono (by decide)) (mc' (mv' 1) (mc' (vf acp ac6 (gu hr.units) (mv' 1) (mc' mh' mn')) (mc' mh' mn'))))))) aau)
   (aa (ah (mv' 1)))),?_⟩
 case ar=>intro as U ⟨h,l,rfl,_⟩;rfl
 intro as U hl ⟨h,l,rfl,L,N,k⟩;refine ai (MSt.mk [some (.imm (.tuple [.tuple [.int h.a,.int h.b],.tuple (h.ss.map Srv.d),.bool h.mv])),some (.imm (.tuple (natD l)))] [] 0) rfl ?_;refine vp ?_;refine oy (λn m=>∃a:List Nat,m=MSt.mk [some (.imm (.tuple [.tuple [.int h.a,.int h.b],.tuple (h.ss.map Srv.d),.bool h.mv])),some (.imm (.tuple (natD a)))] [] 0/\n=a.count 0/\cU h n a=dw h l/\a≠[]/\a.length≤1000) (l.count 0) ⟨l,rfl,rfl,rfl,L,N⟩ ?_;intro n m F ⟨a,rfl,rfl,hs,d,M⟩;have c:du (natD a)=some (a.map λ(x:Nat)=>(x:Int)):=by
  have:=fo (a.map λ(x:Nat)=>(x:Int));rwa[abc]at this
 have g:(a.map λ(x:Nat)=>(x:Int))≠[]:=λz=>d (ahd.mp z);have p:∀x:Int,x∈(a.map λ(x:Nat)=>(x:Int))->(∀y∈(a.map λ(x:Nat)=>(x:Int)),y≤x)->x=(maxN a:Int):=λx o b=>by
  let⟨n,F,rfl⟩:=aae.mp o;have h1:=rj n F;have h2:=b (maxN a:Int) (aae.mpr ⟨maxN a,iC d,rfl⟩);omega
 have B:∀x:Int,x∈(a.map λ(x:Nat)=>(x:Int))->(∀y∈(a.map λ(x:Nat)=>(x:Int)),x≤y)->(x=0↔0∈a):=λx o b=>by
  let⟨n,F,rfl⟩:=aae.mp o;constructor
  .intro z;have:n=0:=by omega
   rw[<-this];exact F
  .intro z;have:=b ((0:Nat):Int) (aae.mpr ⟨0,z,rfl⟩);omega
 have done:dq h a=none->U (.imm (lnD a)) []:=λe=>by
  rw[js e]at hs;rw[<-hs]at k;exact k
 ext s
 cases hmv:h.mv with
 |false=>
  ext s;exact done (if_neg (by rw[hmv];exact λz=>by cases z.1))
 | true=>
  ext s;refine NQ rfl c g λx o b=>?_;have u:=B x o b;ext s;refine aH (λz=>?_) (λz=>?_)
  .have h0:0∈a:=u.mp z;ext s;refine u6 rfl c g λx o b=>?_;rw[p x o b];ext s;refine aH (λz=>?_) (λz=>?_)
   .have e:dq h a=some (idx a (maxN a),idx a 0):=if_pos ⟨hmv,h0,by omega⟩;let⟨O,J,Y,hc,r⟩:=iW e;let⟨m0,m1,m2,S,R⟩:=f9 e;dsimp only at O J Y m1 S R;have s1:=gq (iC d);have X:=gq h0;have g1:a.getD (idx a (maxN a)) 0=maxN a:=bh m1;have Q:(a.set (idx a (maxN a)) (maxN a-1))[idx a 0]?=some 0:=by rw[aaC R];exact S
    have g2:(a.set (idx a (maxN a)) (maxN a-1)).getD (idx a 0) 0=0:=bh Q;have n1:∀(i y:Nat),i<idx a 0->(a.set (idx a (maxN a)) (maxN a-1))[i]?=some y->y≠0:=λi y v b=>by
     by_cases V:idx a (maxN a)=i
     .rw[<-V,aaI J]at b;have:=aal b;omega
     .rw[aaC V]at b;exact X.2 i y v b
    ext s;refine u6 rfl c g λx o b=>?_;rw[p x o b];ext s;refine jG (j:=idx a (maxN a)) (k':=0) (fj _) (fi a) (by decide) (aF s1.1) (by rw[ca];exact decide_eq_true rfl) (λi y v b=>?_) ?_
    .obtain⟨z,ez,rfl,_⟩:=gmap b;rw[ca];exact decide_eq_false (s1.2 i z v ez)
    ext s;refine⟨a,idx a (maxN a),-1,maxN a-1,rfl,J,M,by omega,?_⟩;generalize I:a.set (idx a (maxN a)) (maxN a-1)=t at *;ext n;dsimp only[lnD];ext s;refine jG (j:=idx a 0) (k':=0) (fj _) (fi t) (by decide) (aF Q) (ca 0 0) (λi y v b=>?_) ?_
    .obtain⟨z',ez,rfl,_⟩:=gmap b;have:=ca z' 0;rw[show((0:Nat):Int)=0 from rfl]at this;rw[this];exact decide_eq_false (n1 i z' v ez)
    ext s;have W:t.length=a.length:=by rw[<-I,abj]
    refine⟨t,idx a 0,1,1,rfl,by omega,by omega,by omega,?_⟩;rw[<-O];ext x;have C:ck a (idx a (maxN a),idx a 0)≠[]:=λz=>by
     rw[z]at r;exact d (abh r.symm)
    refine⟨(ck a (idx a (maxN a),idx a 0)).count 0,by omega,ck a (idx a (maxN a),idx a 0),rfl,rfl,?_,C,by omega⟩;rw[<-hs,<-hc];show _=cU h ((ck a (idx a (maxN a),idx a 0)).count 0+1) a;simp only[cU,e]
   .ext s;exact done (if_neg λq=>by have:=q.2.2;omega)
  .ext s;exact done (if_neg λq=>z (u.mpr q.2.1))
theorem qh(T:Bl K mg)(D:DefM K mg "_law_asked" gU ["_law_hall_here","_law_rule_here","_law_stand","_law_order"])(a:FnM P w K mg base "_law_sent" 2 4 jF)(G:FnM P w K mg base "_law_evened" 2 2 oH)(b:FnM P w K mg base "_law_more" 1 3 jr):FnM P w K mg base "_law_asked" 3 4 vj:=by
 refine aP D cN rfl (nN:=7) rfl (by decide) ?ar λF A outer s H E f hr=>⟨_,(mz' (cC (mv' 2) (bo (n:=2) (ag (al 4 cN.nd) (ag (al 5 cN.nd) aY))))
   (mz' (ak 6 cN.nd (mf' a (hr.mono (by decide)) (mc' (mv' 0) (mc' (mv' 1) (mc' (mv' 2) (mc' (mv' 3) mn'))))))
   (mz' (bc (av (bH hr.units) (ab (mv' 1) mh') aK (aG _)) (aa (ak 5 cN.nd (ae cQ (ae aQ (mv' 5) mh') (ap aV (by rfl) T.len cq (mc' (mv' 4) mn'))))) aw)
   (mz' (bc (av (bH hr.units) (ab (mv' 4) (mv' 6)) (ab (ab (ab (mv' 0) mh') (mv' 6)) mh') (aG _)) (aa (ah (af (mc' (af (mc' (mf' G (hr.mono (by decide)) (mc' (mv' 0) (mc' (mv' 4) mn'))) (mc' (mv' 5) mn'))) (mc' aK mn'))))) aw)
   (aa (ah (af (mc' (af (mc' (mf' G (hr.mono (by decide)) (mc' (mv' 0) (mc' (mf' b (hr.mono (by decide)) (mc' (mv' 4) (mc' (mv' 6) (mc' mh' mn')))) mn'))) (mc' (mv' 5) mn'))) (mc' aK mn'))))))))),?_⟩
 case ar=>intro as I ⟨h,r,l,t,o,rfl,_⟩;rfl
 intro as I M ⟨h,r,l,t,o,rfl,ho,c,x,y,k⟩;have p:=x.ln;have g:=p.1;have n1:=ho.n1;have n4:=ho.n4;have ne:∀i:List Nat,i.length=l.length->i≠[]:=λi e z=>by rw[z]at e;simp at e;omega
 refine ai (MSt.mk [some (.imm (.tuple [.tuple [.int h.a,.int h.b],.tuple (h.ss.map Srv.d),.bool h.mv])),some (.imm r.d),some (.imm (.tuple [lnD l,.int (t:Int)])),some (.imm (lnD o)),none,none,none] [] 0) rfl ?_;ext s
 .rfl
 ext s;refine⟨h,r,l,t,o,rfl,ho,c,p,y,?_⟩;have u:=sX ho c p y x.tn;have L:∀(r:Rule),qM h r t=if r.word = "turns" then(t+1)%h.ss.length else t:=by
  intro r
  cases r with
  |turns=>exact(if_pos rfl).symm
  |told Q=>exact(if_neg (show ¬("told" : Str) = "turns" by decide +kernel)).symm
  |_=>exact(if_neg (by decide +kernel)).symm
 rw[show mvD (cK h r l t (.come o)) = .tuple [.tuple [lnD (dw h (e9 h l (sent h r l t o)).1),.int (qM h r t:Nat)],.str (e9 h l (sent h r l t o)).2.s]from rfl]at k;generalize sent h r l t o=j at *;let⟨s,q,O,eb,hs⟩:=h.srv u;have v:h.rn j=s.r:=bh (Hall.rs_get q);ext f;ext n;refine vp ?_;refine x_JS (λm=>m=MSt.mk [some (.imm (.tuple [.tuple [.int h.a,.int h.b],.tuple (h.ss.map Srv.d),.bool h.mv])),some (.imm r.d),some (.imm (.tuple [lnD l,.int (t:Int)])),some (.imm (lnD o)),some (.imm (lnD l)),some (.imm (.int (qM h r t:Nat))),some (.imm (.int (j:Int)))] [] 0) (λN J=>?_) ?_
 .rw[L r]at J;have B:∃ds,r.d = .tuple (.str r.word::ds):=by cases r<;>exact⟨_,rfl⟩
  let⟨ds,C⟩:=B;rw[C]at J⊢;ext s;refine aE (aB (j:=0) (xs:=.str r.word::ds) rfl) ?_;ext s;refine aH (λz=>?_) (λz=>?_)
  .rw[if_pos z]at J;dsimp only[lnD]at J⊢;ext s;rw[aq,g];refine Gn (by omega) ?_;refine cB ?_;exact J _ rfl
  .rw[if_neg z]at J;ext s;exact J _ rfl
 rintro _ rfl;dsimp only[lnD];ext s;refine aE (aB (aF (getN g u))) ?_;ext s;refine aE (d:=s.d) (aB (by rw[GE,q];rfl)) ?_;ext h;refine aH (λz=>?_) (λz=>?_)
 .have e:e9 h l j=(l,.away):=if_pos (by rw[v];omega);rw[e]at k;ext s;refine⟨h,l,rfl,ne l rfl,by omega,?_⟩;ext x;exact k
 .have e:e9 h l j=(l.set j (l.getD j 0+1),.taken):=if_neg (by rw[v];omega);rw[e]at k;ext s;refine⟨l,j,1,l.getD j 0+1,rfl,by omega,by omega,rfl,?_⟩;ext x;refine⟨h,_,rfl,ne _ (by simp),by simp;omega,?_⟩;ext x;exact k
theorem oG(T:Bl K mg)(D:DefM K mg "_law_behind" fI ["_law_hall_here","_law_rule_here","_law_stand"])(g:FnM P w K mg base "_law_orders" 1 1 Fw)(p:FnM P w K mg base "_law_asked" 3 4 vj)(y:FnM P w K mg base "_law_cut" 1 2 ph)(u:FnM P w K mg base "_law_plus" 2 2 GU)(q:FnM P w K mg base "_law_more" 1 3 jr)(G:FnM P w K mg base "_law_evened" 2 2 oH):FnM P w K mg base "_law_behind" 4 3 Fx:=by
 refine aP D aL rfl (nN:=14) rfl (by decide) ?ar λcdv A outer s H E f hr=>⟨_,(mz' (cC (mv' 2) (bo (n:=2) (ag (al 3 aL.nd) (ag (al 4 aL.nd) aY))))
   (mz' (ak 5 aL.nd (mf' g (hr.mono (by decide)) (mc' (ap aV (by rfl) T.len cq (mc' (mv' 3) mn')) mn')))
   (mz' (ak 6 aL.nd (bZ mn'))
   (mz' (bq (bC (mv' 5)) (al 7 aL.nd) (mz' (cC (mf' p (hr.mono (by decide)) (mc' (mv' 0) (mc' (mv' 1) (mc' (mv' 2) (mc' (mv' 7) mn'))))) (bo (n:=2) (ag (al 8 aL.nd) (ag (al 9 aL.nd) aY))))
   (aa (fc (jt acq acr e8 (mv' 6) (mc' (af (mc' (mv' 8) (mc' (mv' 9) (mc' (mf' y (hr.mono (by decide)) (mc' (ab (ab (mv' 0) mh') mh') (mc' (ae aA (ab (ab (mv' 0) mh') mh') (ap aV (by rfl) T.len cq (mc' (mv' 5) mn'))) mn'))) mn')))) mn'))))) aau)
   (mz' (ak 10 aL.nd (af (mc' (ae sg (ab (ab (mv' 0) mh') mh') (ab (ab (mv' 0) mh') mh')) (mc' (ab (ab (mv' 0) mh') mh') mn'))))
   (mz' (bq (bv (by rfl) T.range (mc' (ap aV (by rfl) T.len cq (mc' (mv' 3) mn')) mn')) (al 11 aL.nd) (mz' (ak 12 aL.nd (ab (ab (ab (mv' 0) mh') (mv' 11)) mh'))
   (mz' (ak 10 aL.nd (mf' u (hr.mono (by decide)) (mc' (mv' 10) (mc' (af (mc' (jX h7 (ab (mv' 12) mh')) (mc' (ab (mv' 12) mh') mn'))) mn'))))
   (mz' (ak 9 aL.nd (ab (bZ (mc' aK (mc' aK mn'))) (cp kg (by rfl) T.int xz (mc' (jd il (ab (mv' 3) (mv' 11)) mh' (aG _)) mn'))))
   (mz' (ak 13 aL.nd (mf' q (hr.mono (by decide)) (mc' (mv' 3) (mc' (mv' 11) (mc' (jX h7 (cp kg (by rfl) T.int xz (mc' (jd il (ab (mv' 3) (mv' 11)) mh' (aG _)) mn'))) mn')))))
   (aa (fc (jt acq acr e8 (mv' 6) (mc' (af (mc' (af (mc' (mf' G (hr.mono (by decide)) (mc' (mv' 0) (mc' (mv' 13) mn'))) (mc' (mv' 4) mn'))) (mc' (mv' 9) (mc' (mv' 12) mn')))) mn')))))))) aau)
   (mz' (bc (av il (ab (mv' 10) mh') mh' (aG _)) (aa (fc (jt acq acr e8 (mv' 6) (mc' (af (mc' (af (mc' (mf' G (hr.mono (by decide)) (mc' (mv' 0) (mc' (mv' 3) mn'))) (mc' (mv' 4) mn'))) (mc' aK (mc' (mv' 10) mn')))) mn')))) aw)
   (aa (ah (mv' 6)))))))))),?_⟩
 case ar=>intro as Kc ⟨h,r,l,t,rfl,_⟩;rfl
 intro as Kc hl ⟨h,r,l,t,rfl,ho,I,Q,k⟩;have hL:=Q.ln;have v:=hL.1;have n1:=ho.n1;have n4:=ho.n4;have b1:=ho.b1;have b2:=ho.b2;have a2:=ho.a2;have R:=(cn h.ss.length ho.n4 h.ss.length ho.n4).1;have pO:=dG h.ss.length ho.n4;have ne:∀L:List Nat,L.length=l.length->L≠[]:=λL e z=>by rw[z]at e;simp at e;omega
 refine ai (MSt.mk [some (.imm (.tuple [.tuple [.int h.a,.int h.b],.tuple (h.ss.map Srv.d),.bool h.mv])),some (.imm r.d),some (.imm (.tuple [.tuple (natD l),.int (t:Int)])),none,none,none,none,none,none,none,none,none,none,none] [] 0) rfl ?_;ext s
 .rfl
 ext s;rw[aq,v];refine⟨h.ss.length,rfl,n4,?_⟩;ext n;ext g;ext g;have nC:(cmM h).length≤24:=by unfold cmM;rw[gE];exact R
 have nD:(dnM h).length=h.ss.length:=by unfold dnM;rw[gE,adm]
 refine je (λi m=>∃a b c,m=MSt.mk [some (.imm (.tuple [.tuple [.int h.a,.int h.b],.tuple (h.ss.map Srv.d),.bool h.mv])),some (.imm r.d),some (.imm (.tuple [.tuple (natD l),.int (t:Int)])),some (.imm (.tuple (natD l))),some (.imm (.int (t:Int))),some (.obj 0),some (.obj 1),a,b,c,none,none,none,none] [(ordK h.ss.length h.ss.length).map lnD,((cmM h).take i).map (behD h r l t)] 1) ⟨none,none,none,rfl⟩ ?_ ?_ ?_
 .rintro i m ⟨a,b,c,rfl⟩;rfl
 .rintro i d m e B ⟨a,b,c,rfl⟩;let⟨o,N,rfl,hi⟩:=gmap e;let⟨W,q2,q3⟩:=ve h.ss.length n4 n1 o (oR N);ext s;refine⟨h,r,l,t,o,rfl,ho,I,Q,⟨W,q3,q2⟩,?_⟩;ext n;have S:(cmM h)[i]?=some (Mv.come o,(cb h).1,(cb h).2.toNat):=by unfold cmM;rw[GE,N];rfl
  rw[aaQ,S,aaE];have C:mvD (cK h r l t (.come o)) = .tuple [ptD ((cK h r l t (.come o)).1,(cK h r l t (.come o)).2.1),wdD (cK h r l t (.come o)).2.2]:=rfl;rw[C];ext s
  .rfl
  ext s;rw[gE];refine⟨(h.a:Int),h.b*(ordK h.ss.length h.ss.length).length,by rw[aap],adF (by omega) pO,?_,?_,?_⟩
  .exact aao (show((h.a:Int)).natAbs≤1000000 by omega) (by decide)
  .exact aao (aby (show h.b≤1000000 by omega) R) (by decide)
  rw[KQ ho];ext x;refine' jC (ds:=((cmM h).take i).map (behD h r l t)) ?eb (by rw[aag,gE,aaB];omega) ?_
  case eb=>rfl
  exact⟨_,_,_,rfl⟩
 intro m B ⟨a,b,c,rfl⟩;have V:((ordK h.ss.length h.ss.length).map lnD).length=(cmM h).length:=by unfold cmM;rw[gE,gE]
 rw[V,Ld];ext s;rw[aq];ext d;rw[aaM];refine bz (λi m=>∃(a b c d e f:Option L2.R) (x:Int×Int),m=MSt.mk [some (.imm (.tuple [.tuple [.int h.a,.int h.b],.tuple (h.ss.map Srv.d),.bool h.mv])),some (.imm r.d),some (.imm (.tuple [.tuple (natD l),.int (t:Int)])),some (.imm (.tuple (natD l))),some (.imm (.int (t:Int))),some (.obj 0),some (.obj 1),a,b,c,some (.imm (frT x.1 x.2)),d,e,f] [(ordK h.ss.length h.ss.length).map lnD,(cmM h).map (behD h r l t)++((dnM h).take i).map (behD h r l t)] 0/\RL h i x) ⟨a,b,c,none,none,none,_,by rw[List.take_zero,adI,aa7];rfl,RL.zero ho⟩ ?_ ?_
 .rintro i d m e B ⟨a,b,c,d1,U,d3,x,rfl,X⟩ D1 hD1 hR1;let⟨hi,rfl⟩:=bQ e;rw[show(0:Int)+(i:Int)=((i:Nat):Int) by omega];let⟨s,J,ea,eb,hs⟩:=h.srv (show i<h.ss.length by omega);have so:=ho.ok s hs;have sa:=so.a2;have sb:=so.b2;have Z:=so.b1;have O:=X.succ ho J;have eg:=JF J;rw[aaQ,eg,aaE,<-abg]at hD1;have sz:((cmM h).map (behD h r l t)++((dnM h).take i).map (behD h r l t)).length<100:=by rw[aaj,gE,gE,aaB];omega
  ext s;refine aE (d:=s.d) (aB (by rw[GE,J];rfl)) ?_;ext h;refine⟨x.1,x.2,-(s.a:Int),(s.b:Int),rfl,X.f,⟨?_,?_,by omega⟩,?_⟩
  .exact aao (show(-(s.a:Int)).natAbs≤1000000 by omega) (by decide)
  .exact aao (show((s.b:Int)).natAbs≤1000000 by omega) (by decide)
  unfold addF;rw[nw];ext f;ext x;refine aE (aB (aF (getN v (show i<h.ss.length by omega)))) ?_;ext s
  by_cases F:l.getD i 0=0
  .have ed:dy l i=(l,.none):=if_pos F;have el:l.set i (l.getD i 0)=l:=abD λj=>by
    by_cases M:i=j
    .subst M;rw[aaI (by omega),getN v (show i<h.ss.length by omega)]
    .rw[aaC M]
   rw[F];ext s;refine aE (aB (aF (getN v (show i<h.ss.length by omega)))) ?_;rw[F];ext s;refine⟨l,i,0,l.getD i 0,rfl,by omega,by omega,by omega,?_⟩;rw[el];ext x;refine⟨h,l,rfl,ne l rfl,by omega,?_⟩;ext x;refine' jC (ds:=(cmM h).map (behD h r l t)++((dnM h).take i).map (behD h r l t)) ?eb (by rw[aag];omega) ?_
   case eb=>rfl
   have C:behD h r l t (Mv.done i,(s.a:Int),s.b) = .tuple [.tuple [lnD (dw h l),.int (t:Int)],.str "none",.tuple [.int (s.a:Int),.int (s.b:Int)]]:=by
    show acX [ptD (dw h (dy l i).1,t),wdD (dy l i).2,.tuple [.int (s.a:Int),.int (s.b:Int)]]=_;rw[ed];rfl
   rw[show(some (Mv.done i,(s.a:Int),s.b)).toList.map (behD h r l t)=[behD h r l t (Mv.done i,(s.a:Int),s.b)]from rfl,C]at hD1;exact hD1 _ ⟨a,b,_,_,_,_,_,rfl,O⟩
  .have ed:dy l i=(l.set i (l.getD i 0-1),.served):=if_neg F;ext s;rw[show(if decide ((l.getD i 0:Int)>0)=true then(1:Int)else 0)=1 from if_pos (decide_eq_true (by omega))];refine fZ (d:=.str "served") rfl ?_;ext s;refine aE (aB (aF (getN v (show i<h.ss.length by omega)))) ?_;ext s;rw[show(if decide ((l.getD i 0:Int)>0)=true then(1:Int)else 0)=1 from if_pos (decide_eq_true (by omega))];refine⟨l,i,-1,l.getD i 0-1,rfl,by omega,by omega,by omega,?_⟩;ext x;refine⟨h,_,rfl,ne _ (by simp),by simp;omega,?_⟩;ext x;refine' jC (ds:=(cmM h).map (behD h r l t)++((dnM h).take i).map (behD h r l t)) ?eb (by rw[aag];omega) ?_
   case eb=>rfl
   have C:behD h r l t (Mv.done i,(s.a:Int),s.b) = .tuple [.tuple [lnD (dw h (l.set i (l.getD i 0-1))),.int (t:Int)],.str "served",.tuple [.int (s.a:Int),.int (s.b:Int)]]:=by
    show acX [ptD (dw h (dy l i).1,t),wdD (dy l i).2,.tuple [.int (s.a:Int),.int (s.b:Int)]]=_;rw[ed];rfl
   rw[show(some (Mv.done i,(s.a:Int),s.b)).toList.map (behD h r l t)=[behD h r l t (Mv.done i,(s.a:Int),s.b)]from rfl,C]at hD1;exact hD1 _ ⟨a,b,_,_,_,_,_,rfl,O⟩
 intro m B ⟨a,b,c,d1,U,d3,x,rfl,X⟩;rw[aC,v,<-nD,Ld];rw[aC,v]at X;have ex:=X.g (by omega);subst ex;have Y:(shrM h).map (behD h r l t)=(cmM h).map (behD h r l t)++(dnM h).map (behD h r l t)++if 0<(restF h h.ss.length).1 then [behD h r l t (Mv.still,(restF h h.ss.length).1,(restF h h.ss.length).2.toNat)]else []:=by
  unfold shrM cmM dnM;rw[aaE,aaE]
  congr 1
  split<;>rfl
 rw[Y]at k;unfold frT;ext s;refine aH (λz=>?_) (λz=>?_)
 .rw[if_pos z]at k;ext s;refine⟨h,l,rfl,ne l rfl,by omega,?_⟩;ext x;refine' jC (ds:=(cmM h).map (behD h r l t)++(dnM h).map (behD h r l t)) ?eb (by rw[aag,aaj,gE,gE];omega) ?_
  case eb=>rfl
  ext x;have er:behD h r l t (Mv.still,(restF h h.ss.length).1,(restF h h.ss.length).2.toNat) = .tuple [.tuple [lnD (dw h l),.int (t:Int)],.str "none",.tuple [.int (restF h h.ss.length).1,.int (restF h h.ss.length).2]]:=by
   have:=(db ho h.ss.length (Ad _)).1;show acX [ptD (dw h l,t),.str "none",.tuple [.int (restF h h.ss.length).1,.int (((restF h h.ss.length).2.toNat:Nat):Int)]]=_;rw[show(((restF h h.ss.length).2.toNat:Nat):Int)=(restF h h.ss.length).2 by omega];rfl
  rw[er]at k;exact k
 .rw[if_neg z,aa7]at k;ext s;exact k
def qu(T:Bl K mg)(D:DefM K mg "_law_first" fq ["_law_hall_here"]):FnM P w K mg base "_law_first" 1 1 mw:=by
 refine aP D qT rfl (nN:=1) rfl (by decide) ?ar λc A outer s H E f hr=>⟨_,(aa (ah (af (mc' (cp de (by rfl) T.tuple h8 (mc' (ce (own:=["_law_server"]) (fr:=[]) (ps:=[]) (sc:=(ac fq)) (by exact⟨rfl,by decide +kernel,by decide +kernel,by decide +kernel,by decide +kernel⟩) (bC (ab (mv' 0) mh')) (λ_ _ _ _ _=>(al 0 (show ab8 ((["_law_server"]:List Str)++([]:List Str))from by decide +kernel))) (λ_ _ _ _ _=>cv) (λ_ _ _ _ _=>mh')) mn')) (mc' mh' mn'))))),?_⟩
 case ar=>intro as b ⟨h,rfl,_⟩;rfl
 intro as b j ⟨h,rfl,ho,k⟩;have n4:=ho.n4;refine ai (MSt.mk [some (.imm (.tuple [.tuple [.int h.a,.int h.b],.tuple (h.ss.map Srv.d),.bool h.mv]))] [] 0) rfl ?_;ext s;refine d6 (λi m=>∃a,m=MSt.mk [a] [natD (aai i 0)] 1) ⟨none,rfl⟩ ?_ ?_
 .rintro i d m e hnp ⟨a,rfl⟩;have g:i<h.ss.length:=by
   have:=(DL.mp e).1;simpa using this
  ext s;refine⟨_,rfl,by unfold natD;rw[gE,acf,aag];omega,some (.imm d),?_⟩;rw[List.replicate_succ'];unfold natD;rw[aaE];rfl
 .rintro m hnp ⟨a,rfl⟩;rw[gE];ext x;exact k
theorem sY(T:Bl K mg)(D:DefM K mg "_law_left" jg ["_law_hall_here","_law_rule_here","_law_pairs"])(G:FnM P w K mg base "_law_behind" 4 3 Fx)(g:FnM P w K mg base "_law_times" 2 2 M9)(i:FnM P w K mg base "_law_plus" 2 2 GU):FnM P w K mg base "_law_left" 5 3 uL:=by
 refine aP D ci rfl (nN:=9) rfl (by decide) ?ar λcdv A outer s H E f hr=>⟨_,(mz' (ak 3 ci.nd ol)
   (mz' (bq (bC (mv' 2)) (bo (n:=2) (ag (al 4 ci.nd) (ag (al 5 ci.nd) aY))) (aa (bq (bC (fz (mf' G (hr.mono (by decide)) (mc' (mv' 0) (mc' (mv' 1) (mc' (mv' 4) mn')))))) (bo (n:=3) (ag (al 6 ci.nd) (ag (al 7 ci.nd) (ag (al 8 ci.nd) aY)))) (aa (pI hr.units (mf' i (hr.mono (by decide)) (mc' (jR hr.units (mv' 3) (mc' (mv' 6) (mc' (af (mc' mh' (mc' mh' mn'))) mn'))) (mc' (mf' g (hr.mono (by decide)) (mc' (mv' 5) (mc' (mv' 8) mn'))) mn'))) (mv' 3) (mv' 6))) aau)) aau)
   (aa (yy (ah (mv' 3)))))),?_⟩
 case ar=>intro as Kc ⟨h,r,n,W,rfl,_⟩;rfl
 intro as Kc hl ⟨h,r,n,W,rfl,C,pW,k⟩;have ho:=C.ho;have o:=C.hr;let⟨mn,mo⟩:=IW ho;have P1:=C.p0 (n+1);have B1:=C.b;have ln:W.length≤100000:=by rw[pW.length_eq];exact D8 ho o n
 have B0:=C.pw (k:=n) (by omega);refine ai (MSt.mk [some (.imm h.d),some (.imm r.d),some (.imm (jB ((botH h^n:Nat):Int) W)),none,none,none,none,none,none] [] 0) rfl ?_;ext s;ext n;unfold jB;ext s;refine bz (λj m=>∃a4 a5 Q N O:Option L2.R,m=MSt.mk [some (.imm h.d),some (.imm r.d),some (.imm (.tuple (W.map λq=>.tuple [ptD q.1,nf q.2 ((botH h^n:Nat):Int)]))),some (.at 0 []),a4,a5,Q,N,O] [[.dict (lfKV (shD ((botH h^(n+1):Nat):Int) ((W.take j).foldl (goW h r (msL h)) ([],[])).1))]] 0/\GoOk h r (29*j) ((W.take j).foldl (goW h r (msL h)) ([],[]))/\GoB ((29*j:Nat)*((botH h^(n+1):Nat):Int)) ((W.take j).foldl (goW h r (msL h)) ([],[]))) ⟨none,none,none,none,none,rfl,⟨λ_ hp=>(by cases hp),Ad _,Ad _⟩,⟨λ_ hp=>(by cases hp),λ_ hp=>(by cases hp),?_,?_⟩⟩ ?_ ?_
 .show(0:Int)≤0*_;rw[aeu];exact adG 0
 .show(0:Int)≤0*_;rw[aeu];exact adG 0
 .rintro j d m e hnp ⟨a4,a5,Q,N,O,rfl,G0,Q0⟩ D1 hD1 hR1;let⟨⟨⟨l,t⟩,c⟩,ep,rfl,hj⟩:=gmap e;have mp:=pW.mem_iff.mp (oR ep);have hS:=mh ho o n _ mp;have L:(W.take (j+1)).foldl (goW h r (msL h)) ([],[])=goW h r (msL h) ((W.take j).foldl (goW h r (msL h)) ([],[])) ((l,t),c):=by
   rw[abX,ep,ady];rfl
  have w0:=qJ ho C.h0 r n _ mp;have w1:=(gJ (qJ ho C.h0 r n)).2 _ mp;rw[me ho C.h0 r n]at w1;have fW:FrOk (nfP c ((botH h^n:Nat):Int)).1 (nfP c ((botH h^n:Nat):Int)).2:=zh (C.p0 n) (aaA (show c.natAbs<10^67 by dsimp only at w0 w1;omega) (by decide)) (by rw[aaH];exact aaA B0 (by decide));have amt:∀q∈msL h,0≤c*q.2/\c*q.2≤((botH h^(n+1):Nat):Int):=λq hq=>C.amt mp hq;rw[L]at hD1;generalize hx0:(W.take j).foldl (goW h r (msL h)) ([],[])=I at *;dsimp only;ext s
  .rfl
  ext s;refine⟨h,r,l,t,rfl,ho,o,hS,?_⟩;ext x;refine bz (λz m=>∃Q N O:Option L2.R,m=MSt.mk [some (.imm h.d),some (.imm r.d),some (.imm (.tuple (W.map λq=>.tuple [ptD q.1,nf q.2 ((botH h^n:Nat):Int)]))),some (.at 0 []),some (.imm (stD l t)),some (.imm (nf c ((botH h^n:Nat):Int))),Q,N,O] [[.dict (lfKV (shD ((botH h^(n+1):Nat):Int) (((msL h).take z).foldl (λx q=>goW1 h r (l,t) c q x) I).1))]] 0/\GoOk h r (29*j+z) (((msL h).take z).foldl (λx q=>goW1 h r (l,t) c q x) I)/\GoB ((29*j+z:Nat)*((botH h^(n+1):Nat):Int)) (((msL h).take z).foldl (λx q=>goW1 h r (l,t) c q x) I)) ⟨Q,N,O,rfl,G0,Q0⟩ ?_ ?_
  .rintro z d m ez hnz ⟨c6,c7,c8,rfl,G1,Q1⟩ D3 hD3 hR3;let⟨q,eq,rfl,hz⟩:=gmap ez;have hq:=oR eq;have eM:=Oj eq;have U:=mo _ (oR eM);let⟨fQ,eQ⟩:=C.part (k:=n) c hq;let⟨R,am1⟩:=amt _ (oR eM);have F:((msL h).take (z+1)).foldl (λx q=>goW1 h r (l,t) c q x) I=goW1 h r (l,t) c (q.1,q.2.1*((botH h/q.2.2:Nat):Int)) (((msL h).take z).foldl (λx q=>goW1 h r (l,t) c q x) I):=by
    rw[abX,eM,ady];rfl
   have G2:=G1.next ho o hS c U.1;have S:=Q1.next (h:=h) (r:=r) (p:=(l,t)) R am1;have zl:(msL h).length=(shrM h).length:=by unfold msL;rw[gE]
   have zb:z<29:=by omega
   rw[F]at hD3;generalize ((msL h).take z).foldl (λx q=>goW1 h r (l,t) c q x) I=u at *;have Z:=nH ho o hS U.1;rw[show behD h r l t q = .tuple [ptD ((cK h r l t q.1).1,(cK h r l t q.1).2.1),wdD (cK h r l t q.1).2.2,.tuple [.int q.2.1,.int (q.2.2:Int)]]from rfl];unfold goW1 at G2 S hD3;dsimp only at eQ R am1 G2 S hD3⊢;generalize hv:c*(q.2.1*((botH h/q.2.2:Nat):Int))=v at *;generalize cK h r l t q.1=mm at *;let⟨J,M,wd⟩:=mm;dsimp only at Z G2 S hD3⊢;have B:kyA (shD ((botH h^(n+1):Nat):Int) u.1)=true:=yJ ho G1.st;have X:=sd ho Z;have m1:=G1.n1;have bd:∀y:Int,0≤y->y≤((29*j+z:Nat):Int)*((botH h^(n+1):Nat):Int)->y.natAbs<10^76:=λy h1 h2=>PF (k:=29*j+z) h1 h2 (adG _) (by omega) B1;have Y:∀y:Int,y.natAbs<10^76->FrOk (nfP y ((botH h^(n+1):Nat):Int)).1 (nfP y ((botH h^(n+1):Nat):Int)).2:=λy hy=>zh P1 hy (by rw[aaH];exact aaA B1 (by decide));have frv:FrOk (nfP v ((botH h^(n+1):Nat):Int)).1 (nfP v ((botH h^(n+1):Nat):Int)).2:=Y v (aaA (show v.natAbs<10^67 by omega) (by decide));have g1:=rl (J,M) Q1.n1;have qs1:=Q1.s1;have V:∀a b:Int,addF (nfP a ((botH h^(n+1):Nat):Int)).1 (nfP a ((botH h^(n+1):Nat):Int)).2 (nfP b ((botH h^(n+1):Nat):Int)).1 (nfP b ((botH h^(n+1):Nat):Int)).2=nf (a+b) ((botH h^(n+1):Nat):Int):=λa b=>by unfold addF;rw[nw,AV P1,<-nw]
   ext s
   .rfl
   ext s;refine⟨shD ((botH h^(n+1):Nat):Int) u.1,⟨rfl,rfl⟩,.inr B,?_⟩;ext s;refine⟨shD ((botH h^(n+1):Nat):Int) u.1,ptD (J,M),.tuple [.int 0,.int 1],rfl,⟨rfl,rfl⟩,by unfold oneK;rw[B,show kyD (ptD (J,M))=true from X,ahk,afm],?_⟩;have z0:acX [.int 0,.int 1]=frV ((botH h^(n+1):Nat):Int) 0:=by unfold frV;rw[nw,BJ P1];rfl
   rw[z0,show shD ((botH h^(n+1):Nat):Int) u.1=kvG ptD (frV ((botH h^(n+1):Nat):Int)) u.1 from rfl,wX jU];ext s;refine⟨(nfP c ((botH h^n:Nat):Int)).1,(nfP c ((botH h^n:Nat):Int)).2,q.2.1,(q.2.2:Int),rfl,fW,fQ,?_⟩;rw[show mulF (nfP c ((botH h^n:Nat):Int)).1 (nfP c ((botH h^n:Nat):Int)).2 q.2.1 (q.2.2:Int)=nf v ((botH h^(n+1):Nat):Int) by unfold mulF;rw[nw,eQ,<-nw]];ext x;refine⟨(nfP (getA (J,M) u.1) ((botH h^(n+1):Nat):Int)).1,(nfP (getA (J,M) u.1) ((botH h^(n+1):Nat):Int)).2,(nfP v ((botH h^(n+1):Nat):Int)).1,(nfP v ((botH h^(n+1):Nat):Int)).2,rfl,Y _ (bd _ g1.1 (by omega)),frv,?_⟩;rw[V];ext x;refine⟨_,shD ((botH h^(n+1):Nat):Int) u.1,rfl,rfl,rfl,B,X,by unfold shD kvG;rw[gE,aag];omega,?_⟩;rw[show nf (getA (J,M) u.1+v) ((botH h^(n+1):Nat):Int)=frV ((botH h^(n+1):Nat):Int) (getA (J,M) u.1+v)from rfl,show shD ((botH h^(n+1):Nat):Int) u.1=kvG ptD (frV ((botH h^(n+1):Nat):Int)) u.1 from rfl,DT jU];have s29:((29*j+z:Nat):Int)*((botH h^(n+1):Nat):Int)+((botH h^(n+1):Nat):Int)=((29*j+(z+1):Nat):Int)*((botH h^(n+1):Nat):Int):=by
    rw[<-ac5,ab0 _ 1,aeY,show((1:Nat):Int)=1 from rfl,afM]
   rw[s29]at S;ext n;exact hD3 _ ⟨_,_,_,rfl,G2,S⟩
  .rintro m hnz ⟨b6,b7,b8,rfl,G1,Q1⟩;have el:((shrM h).map (behD h r l t)).length=(msL h).length:=by unfold msL;rw[gE,gE]
   rw[el,Ld]at G1 Q1⊢;have eg:(msL h).foldl (λx q=>goW1 h r (l,t) c q x) I=goW h r (msL h) I ((l,t),c):=rfl;rw[eg]at G1 Q1⊢;refine hD1 _ ⟨_,_,_,_,_,rfl,⟨G1.st,aak G1.n1 (by omega),aak G1.n2 (by omega)⟩,⟨Q1.n1,Q1.n2,agr Q1.s1 ?_,agr Q1.s2 ?_⟩⟩<;>exact aeJ (by omega) (by omega)
 .rintro m hnp ⟨a4,a5,Q,N,O,rfl,G0,Q0⟩;rw[gE,Ld];have pS:=zc ho pW;have B:kyA (shD ((botH h^(n+1):Nat):Int) (W.foldl (goW h r (msL h)) ([],[])).1)=true:=yJ ho λp hp=>mh ho o _ p (pS.mem_iff.mp hp);ext s;refine KJ 0 3 (shD ((botH h^(n+1):Nat):Int) (W.foldl (goW h r (msL h)) ([],[])).1) [] (MSt.mk [some (.imm h.d),some (.imm r.d),some (.imm (.tuple (W.map λq=>.tuple [ptD q.1,nf q.2 ((botH h^n:Nat):Int)]))),some (.imm (.dict (shD ((botH h^(n+1):Nat):Int) (W.foldl (goW h r (msL h)) ([],[])).1))),none,none,none,none,none] [] 0) rfl rfl B ?_ ?_
  .exact II rfl rfl rfl rfl rfl rfl rfl rfl ⟨.inl rfl,.inl rfl,.inl rfl,.inr ⟨rfl,.inr rfl⟩,.inl trivial,.inl trivial,.inl trivial,.inl trivial,.inl trivial,trivial⟩
  ext s;exact k _ pS
theorem jT(T:Bl K mg)(D:DefM K mg "_law_in_order" cI ["_law_shares"]):FnM P w K mg base "_law_in_order" 1 1 zP:=by
 refine aP D lh rfl (nN:=1) rfl (by decide) ?ar λj A outer s H E f hr=>⟨_,(aa (ah (cp de (by rfl) T.tuple h8 (mc' (ce (own:=["_law_stand"]) (fr:=["_law_shares"]) (ps:=[0]) (sc:=(ac cI)) (by exact⟨rfl,by decide +kernel,by decide +kernel,by decide +kernel,by decide +kernel⟩) (bC (fz (ap (si rfl hr.units) (by rfl) T.sorted q9 (mc' (mv' 0) mn')))) (λ_ _ _ _ _=>(al 0 (show ab8 ((["_law_stand"]:List Str)++(["_law_shares"]:List Str))from by decide +kernel))) (λ_ _ _ _ _=>cv) (λ_ _ _ _ _=>(af (mc' (mv' 0) (mc' (Bx hr.units (mv' 1) (mv' 0)) mn'))))) mn')))),?_⟩
 case ar=>intro as u ⟨h,r,W,D,rfl,_⟩;rfl
 intro as u x ⟨h,r,W,D,rfl,ho,X,k⟩;refine ai (MSt.mk [some (.imm (.dict (shD D W)))] [] 0) rfl ?_;ext s;have E:=LG ho X;have ky:kyA (shD D W)=true:=yJ ho X.st;refine FH (by rw[ky,afm]) ?_;rw[Ig];refine⟨E.srt X,λg p o=>?_⟩;let⟨b,s,rfl⟩:=E.srd X p o;have ln:b.length<10001:=by rw[s.p.length_eq];exact X.n
 ext s;ext n;refine bz (λi m=>∃a:Option L2.R,m=MSt.mk [a,some (.imm (.dict (shD D W)))] [(b.take i).map λq=>.tuple [ptD q.1,nf q.2 D]] 1) ⟨none,rfl⟩ ?_ ?_
 .rintro i d m e hnp ⟨a,rfl⟩ D1 hD1 hR1;let⟨q,eq,rfl,v⟩:=gmap e;have c:=s.p.mem_iff.mp (oR eq);let⟨z,t⟩:=acZ c;ext s;refine⟨shD D W,frV D q.2,rfl,by unfold oneK;rw[ky,show kyD (ptD q.1)=true from sd ho (X.st q c),ahk,afm],u9 (f:=frV D) jU X.kd t,?_⟩;ext s;refine⟨_,rfl,by rw[aag,gE,aaB];omega,hD1 _ ⟨some (.imm (ptD q.1)),?_⟩⟩;rw[aaQ,eq,aaE];rfl
 .rintro m hnp ⟨a,rfl⟩;rw[gE,Ld];ext s;exact k b s
theorem vX(T:Bl K mg)(D:DefM K mg "_law_due" j5 ["_law_hall_here","_law_rule_here","_law_turns"])(b:FnM P w K mg base "_law_first" 1 1 mw)(G:FnM P w K mg base "_law_in_order" 1 1 zP)(c:FnM P w K mg base "_law_left" 5 3 uL):FnM P w K mg base "_law_due" 6 3 ze:=by
 refine aP D gh rfl (nN:=5) rfl (by decide) ?ar λt A outer s H E f hr=>⟨_,(mz' (ak 3 gh.nd (pG hr.units (mf' b (hr.mono (by decide)) (mc' (mv' 0) mn')) (af (mc' mh' (mc' mh' mn')))))
   (mz' (bq (bv (by rfl) T.range (mc' (mv' 2) mn')) (al 4 gh.nd) (aa (ak 3 gh.nd (mf' c (hr.mono (by decide)) (mc' (mv' 0) (mc' (mv' 1) (mc' (mf' G (hr.mono (by decide)) (mc' (mv' 3) mn')) mn')))))) aau)
   (aa (ah (mf' G (hr.mono (by decide)) (mc' (mv' 3) mn')))))),?_⟩
 case ar=>intro as u ⟨h,r,n,rfl,_⟩;rfl
 intro as u x ⟨h,r,n,rfl,g,k⟩;have ho:=g.ho;have j:=g.hr;have y:=g.le;refine ai (MSt.mk [some (.imm h.d),some (.imm r.d),some (.imm (.int (n:Int))),none,none] [] 0) rfl ?_;ext s;refine⟨h,rfl,ho,?_⟩;ext x;refine⟨sd ho (mj ho r),?_⟩;ext s;ext d;rw[show((n:Int)).toNat=n by omega];refine bz (λi m=>∃(a:Option L2.R) (S:List (Pt×Int)),S.Perm (stW h r i)/\m=MSt.mk [some (.imm h.d),some (.imm r.d),some (.imm (.int (n:Int))),some (.imm (.dict (shD ((botH h^i:Nat):Int) S))),a] [] 0) ⟨none,stW h r 0,.refl _,?_⟩ ?_ ?_
 .have z1:nf 1 ((botH h^0:Nat):Int) = .tuple [.int 1,.int 1]:=by rw[ahL,nw,show nfP 1 ((1:Nat):Int)=(1,1) by decide +kernel];rfl
  show _=MSt.mk [_,_,_,some (.imm (.dict [(ptD (zer h,0),nf 1 ((botH h^0:Nat):Int))])),none] [] 0;rw[z1];rfl
 .rintro i d m e hnp ⟨a,S,pS,rfl⟩ D1 hD1 hR1;let⟨v,rfl⟩:=bQ e;have o:DuOk h r (i+1):=⟨ho,j,g.h0,by omega,g.pw (by omega)⟩;ext s;refine⟨h,r,S,_,rfl,ho,uA g (by omega) pS,λW s=>?_⟩;ext x;refine⟨h,r,i,W,rfl,o,s.p.trans pS,λq p=>?_⟩;ext f;ext n;exact hD1 _ ⟨_,q,p,rfl⟩
 .rintro m hnp ⟨a,S,pS,rfl⟩;rw[aC]at pS⊢;ext s;refine⟨h,r,S,_,rfl,ho,uA g (Ad _) pS,λW s=>?_⟩;ext x;exact k W ⟨s.p.trans pS,s.o⟩
theorem QF(T:Bl K mg){ff:Addr}{fd:acV}(F:Fun K "law" "law" slaw ff fd)(u:FnM P w K mg base "_law_tape" 1 1 DI)(t:FnM P w K mg base "_law_hall" 4 2 wf)(v:FnM P w K mg base "_law_rule" 2 2 yh)(G:FnM P w K mg base "_law_draw" 1 2 kM)(o:FnM P w K mg base "_law_all_lines" 1 1 C9)(y:FnM P w K mg base "_law_due" 6 3 ze)(a:FnM P w K mg base "left_by_turns" 7 3 y7)(p:FnM P w K mg base "_law_first" 1 1 mw):FnOk P w K mg base CX0 9 ff fd ["_law_script"] (spOf ⟨K,w⟩ 1 Bi):=by
 refine Jc F ij rfl (nN:=10) rfl (by decide) λcdv A outer s H E f hr=>⟨_,(mz' (ak 1 ij.nd (mf' u (hr.mono (by decide)) (mc' (mv' 0) mn')))
   (mz' (ak 2 ij.nd (fz (bZ (mc' (af (mc' mh' mn')) (mc' (af (mc' mh' mn')) (mc' (af (mc' mh' (mc' mh' mn'))) (mc' (af (mc' mh' (mc' mh' mn'))) (mc' (af (mc' mh' (mc' mh' mn'))) (mc' (af (mc' mh' (mc' mh' mn'))) (mc' (af (mc' mh' (mc' mh' mn'))) (mc' (af (mc' mh' (mc' mh' (mc' mh' mn')))) (mc' (af (mc' mh' (mc' mh' (mc' mh' mn')))) mn'))))))))))))
   (mz' (bq (bv (by rfl) T.range (mc' mh' mn')) (al 3 ij.nd) (mz' (ak 4 ij.nd (mf' t (hr.mono (by decide)) (mc' (mv' 1) (mc' (mv' 2) mn'))))
   (mz' (ak 5 ij.nd (mf' v (hr.mono (by decide)) (mc' (mv' 1) (mc' (mv' 4) mn'))))
   (mz' (ak 6 ij.nd (mf' G (hr.mono (by decide)) (mc' (mv' 1) (mc' (ab (bZ (mc' mh' (mc' mh' (mc' mh' mn')))) (ae sg (ap aV (by rfl) T.len cq (mc' (ab (mv' 4) mh') mn')) mh')) mn'))))
   (mz' (bc (EW.pt (jV (av (bH hr.units) (ap aV (by rfl) T.len cq (mc' (ab (mv' 4) mh') mn')) mh' (aG _)) (jV (av (bH hr.units) (ap aV (by rfl) T.len cq (mc' (mf' o (hr.mono (by decide)) (mc' (mv' 4) mn')) mn')) mh' (aG _)) (ot (av (bH hr.units) (mf' G (hr.mono (by decide)) (mc' (mv' 1) (mc' mh' mn'))) mh' (aG _)))))) (aa (ak 6 ij.nd (ae aQ mh' (mf' G (hr.mono (by decide)) (mc' (mv' 1) (mc' mh' mn')))))) aw)
   (mz' (bc (av (bH hr.units) (mf' G (hr.mono (by decide)) (mc' (mv' 1) (mc' mh' mn'))) mh' (aG _)) (mz' (ak 4 ij.nd (af (mc' (af (mc' mh' (mc' mh' mn'))) (mc' (af (mc' (af (mc' (af (mc' mh' (mc' mh' mn'))) (mc' mh' mn'))) (mc' (af (mc' (af (mc' mh' (mc' mh' mn'))) (mc' mh' mn'))) (mc' (af (mc' (af (mc' mh' (mc' mh' mn'))) (mc' mh' mn'))) mn')))) (mc' (jd (bH hr.units) (mf' G (hr.mono (by decide)) (mc' (mv' 1) (mc' mh' mn'))) mh' (aG _)) mn')))))
   (mz' (ak 5 ij.nd (af (mc' aK mn')))
   (aa (ak 6 ij.nd (ab (bZ (mc' mh' (mc' mh' mn'))) (mf' G (hr.mono (by decide)) (mc' (mv' 1) (mc' mh' mn')))))))) aw)
   (mz' (ak 7 ij.nd (ap (c9 hr.gd hr.u200) (by rfl) T.repr iX (mc' (af (mc' (mv' 4) (mc' (mv' 5) mn'))) mn')))
   (mz' (ak 8 ij.nd (mf' y (hr.mono (by decide)) (mc' (mv' 4) (mc' (mv' 5) (mc' (mv' 6) mn')))))
   (mz' (bq (bv (by rfl) T.range (mc' mh' mn')) (al 9 ij.nd) (aa (bc (EW.pt (za (av (qW hr.units) (ap (c9 hr.gd hr.u200) (by rfl) T.repr iX (mc' (mf' a (hr.mono (by decide)) (mc' (mv' 4) (mc' (mv' 5) (mc' (mv' 6) mn')))) mn')) (ap (c9 hr.gd hr.u200) (by rfl) T.repr iX (mc' (mv' 8) mn')) (aG _)) (yZ (av (qW hr.units) (ap (c9 hr.gd hr.u200) (by rfl) T.repr iX (mc' (af (mc' (mv' 4) (mc' (mv' 5) mn'))) mn')) (mv' 7) (aG _))))) (aa (ah xm)) aw)) aau)
   (aa (bc (av (qW hr.units) (ap (c9 hr.gd hr.u200) (by rfl) T.repr iX (mc' (mf' a (hr.mono (by decide)) (mc' (mv' 4) (mc' (mv' 5) (mc' mh' mn')))) mn')) (ap (c9 hr.gd hr.u200) (by rfl) T.repr iX (mc' (af (mc' (af (mc' (mf' p (hr.mono (by decide)) (mc' (mv' 4) mn')) (mc' (af (mc' mh' (mc' mh' mn'))) mn'))) mn')) mn')) (aG _)) (aa (ah xm)) aw)))))))))) aau)
   (aa (ah xm))))),?_⟩
 intro as Kc hl ⟨L,rfl,hn,k⟩;refine ai (MSt.mk [some (.imm (.list (L.map .int))),none,none,none,none,none,none,none,none,none] [] 0) rfl ?_;ext s;refine⟨L,rfl,hn,λfd b=>?_⟩;ext n;ext g;refine⟨by decide,by decide,?_⟩;refine bz (λi m=>∃(a3 a4 a5 a6 O Q C:Option L2.R) (fd:List dL),m=MSt.mk [some (.imm (.list (L.map .int))),some (.obj 0),some (.imm (.list (menu27.map lnD))),a3,a4,a5,a6,O,Q,C] [fd] 0/\TapeD (3000*i) fd) ⟨none,none,none,none,none,none,none,fd,rfl,b⟩ ?_ ?_
 .rintro i d m e hnp ⟨a3,a4,a5,a6,O,Q,C,fd,rfl,b⟩ D1 hD1 hR1;let⟨hi,rfl⟩:=bQ e;have hi2:i<2:=hi;ext s;refine⟨fd,_,_,rfl,Am,b,by omega,λh S fd ho M R b=>?_⟩;have n1:=ho.n1;have n3:h.ss.length≤3:=by have:=Ay _ R;rwa[h.rsl]at this
  ext f;ext x;refine⟨fd,_,h,rfl,ho,b,by omega,λr fd hr b=>?_⟩;ext f;ext n;refine vp ?_;refine x_JS (λm=>∃(n:Nat) (fd:List dL),n≤12/\TapeD (3000*i+2450) fd/\m=MSt.mk [some (.imm (.list (L.map .int))),some (.obj 0),some (.imm (.list (menu27.map lnD))),some (.imm (.int (0+(i:Int)))),some (.imm (.tuple [.tuple [.int h.a,.int h.b],.tuple (h.ss.map Srv.d),.bool h.mv])),some (.imm r.d),some (.imm (.int (n:Int))),O,Q,C] [fd] 0) (λN J=>?_) ?_
  .refine ai (MSt.mk [some (.imm (.list (L.map .int))),some (.obj 0),some (.imm (.list (menu27.map lnD))),some (.imm (.int (0+(i:Int)))),some (.imm (.tuple [.tuple [.int h.a,.int h.b],.tuple (h.ss.map Srv.d),.bool h.mv])),some (.imm r.d),a6,O,Q,C] [fd] 0) rfl ?_;ext s;rw[gE];let⟨x,ex,hx,hx2⟩:∃x:Nat,[abi 13,.int 7,.int 5][h.ss.length-1]?=some (.int (x:Int))/\0<x/\x≤13:=by
    rcases (show h.ss.length=1\/h.ss.length=2\/h.ss.length=3 by omega)with z|z|z
    .rw[z];exact⟨13,rfl,by decide,by decide⟩
    .rw[z];exact⟨7,rfl,by decide,by decide⟩
    .rw[z];exact⟨5,rfl,by decide,by decide⟩
   rw[show((h.ss.length:Nat):Int)-1=((h.ss.length-1:Nat):Int) by omega];refine fZ (aB ex) ?_;ext s;refine⟨fd,_,_,rfl,b,by omega,by omega,by omega,λq fd B I b=>?_⟩;let⟨tu,rfl⟩:=abt B;ext f;ext n;exact J _ ⟨tu,fd,by omega,b.mono (by omega),rfl⟩
  clear b;intro _ ⟨n,fd,g,b,rfl⟩;ext n;refine vp ?_;refine x_JS (λm=>∃(n:Nat) (fd:List dL),n≤12/\TapeD (3000*i+2460) fd/\m=MSt.mk [some (.imm (.list (L.map .int))),some (.obj 0),some (.imm (.list (menu27.map lnD))),some (.imm (.int (0+(i:Int)))),some (.imm (.tuple [.tuple [.int h.a,.int h.b],.tuple (h.ss.map Srv.d),.bool h.mv])),some (.imm r.d),some (.imm (.int (n:Int))),O,Q,C] [fd] 0) (λN J=>?_) ?_
  .have J0:=J _ ⟨n,fd,g,b.mono (by omega),rfl⟩;ext s;rw[gE]
   by_cases z:((h.ss.length:Nat):Int)=2
   .rw[decide_eq_true z];ext s;refine⟨h,rfl,ho,?_⟩;ext x;rw[gE]
    by_cases z:((M3.allR h.rs).length:Int)=4
    .rw[decide_eq_true z];ext s;refine⟨fd,_,_,rfl,b,by omega,by decide,by decide,λq fd B I b=>?_⟩;ext x;refine aH (λ_=>?_) (λ_=>?_)
     .ext s;refine⟨fd,_,_,rfl,b,by omega,by decide,by decide,λq fd B I b=>?_⟩;let⟨q,rfl⟩:=abt B;ext x;exact J _ ⟨9+q,fd,by omega,b.mono (by omega),rfl⟩
     .ext s;exact J _ ⟨n,fd,g,b.mono (by omega),rfl⟩
    .rw[decide_eq_false z];ext s;exact J0
   .rw[decide_eq_false z];ext s;exact J0
  clear b g;intro _ ⟨n,fd,g,b,rfl⟩;ext n;refine vp ?_;refine x_JS (λm=>∃(h:Hall) (r:Rule) (S n:Nat) (fd:List dL),h.Ok/\r.Ok h/\OfS h S/\n≤12/\TapeD (3000*i+2470) fd/\m=MSt.mk [some (.imm (.list (L.map .int))),some (.obj 0),some (.imm (.list (menu27.map lnD))),some (.imm (.int (0+(i:Int)))),some (.imm h.d),some (.imm r.d),some (.imm (.int (n:Int))),O,Q,C] [fd] 0) (λN J=>?_) ?_
  .ext s;refine⟨fd,_,_,rfl,b,by omega,by decide,by decide,λq fd B I b=>?_⟩;ext x;refine aH (λ_=>?_) (λ_=>?_)
   .ext s;refine⟨fd,_,_,rfl,b,by omega,by decide,by decide,λq fd B I b=>?_⟩;ext x;refine⟨fd,_,_,rfl,b,by omega,by decide,by decide,λq2 fd Y hq1' b=>?_⟩;let⟨q2,rfl⟩:=abt Y;ext n;let⟨x,ex,hx⟩:∃x:Nat,[abi 6,.int 5][q2]?=some (.int (x:Int))/\x≤6:=by
     rcases (show q2=0\/q2=1 by omega)with rfl|rfl
     .exact⟨6,rfl,by decide⟩
     .exact⟨5,rfl,by decide⟩
    ext s;refine fZ (aB ex) ?_;ext s;exact J _ ⟨pF (decide (q=0)),.random,8,x,fd,xZ _,trivial,zH _,by omega,b.mono (by omega),rfl⟩
   .ext s;exact J _ ⟨h,r,S,n,fd,ho,hr,M,g,b.mono (by omega),rfl⟩
  clear b g hr M R n3 n1 ho;clear h r S n;intro _ ⟨h,r,S,n,fd,ho,hr,M,g,b,rfl⟩;have D:DuOk h r n:=⟨ho,hr,M.rest ho,g,M.pow ho g⟩;have D0:DuOk h r 0:=⟨ho,hr,M.rest ho,by decide,M.pow ho (by decide)⟩;have X:=uA D (Ad _) (.refl (stW h r n));have X0:=uA D0 (Ad _) (.refl (stW h r 0));have P0:=D.p0 n;have B0:(((botH h^n:Nat):Int)).natAbs<10^76:=by rw[aaH];exact aaA D.b (by decide)
  have fb:Fine 300000 5 (.tuple [h.d,r.d]):=(bj (n:=80000) (k:=4) (c:=3) (λd hd=>by
   simp at hd;rcases hd with rfl|rfl
   .exact ho.fine.mono (by decide) (by decide)
   .exact(hr.fine ho).mono (by decide) (by decide)) (by simp)).mono (by decide) (by decide)
  let⟨V,W⟩:∃V,(acX [h.d,r.d]).shown=V:=⟨_,rfl⟩;ext x;refine jb fb rfl (by decide) (by decide) ?_;rw[W];ext s;refine⟨h,r,n,rfl,D,λW1 s1=>?_⟩;have ft:=pH ho X s1 P0 B0;let⟨tx,Z⟩:∃tx,(jB ((botH h^n:Nat):Int) W1).shown=tx:=⟨_,rfl⟩;ext f;ext x;refine⟨by decide,by decide,?_⟩;refine bz (λj m=>∃C:Option L2.R,m=MSt.mk [some (.imm (.list (L.map .int))),some (.obj 0),some (.imm (.list (menu27.map lnD))),some (.imm (.int (0+(i:Int)))),some (.imm h.d),some (.imm r.d),some (.imm (.int (n:Int))),some (.imm (.str V)),some (.imm (jB ((botH h^n:Nat):Int) W1)),C] [fd] 0) ⟨_,rfl⟩ ?_ ?_
  .rintro j d m e hnp ⟨C,rfl⟩ D2 hD2 hR2;let⟨hj,rfl⟩:=bQ e;ext s;refine⟨h,r,n,rfl,D,X,λW2 s2=>?_⟩;have e12:=s2.uniq X s1;subst e12;ext x;refine jb ft rfl (by decide) (by decide) ?_;rw[Z];ext s;refine jb ft rfl (by decide) (by decide) ?_;rw[Z];ext s;rw[decide_eq_true (rfl:tx=tx)];refine gH ?_;ext s;refine jb fb rfl (by decide) (by decide) ?_;rw[W];ext s;rw[decide_eq_true (rfl:V=V)];refine gH ?_;ext s;exact hD2 _ ⟨_,rfl⟩
  .rintro m hnz ⟨C,rfl⟩;have s0:Srd (stW h r 0) (stW h r 0):=⟨.refl _,List.pairwise_singleton _ _⟩;have f0:=pH ho X0 s0 (D.p0 0) (by rw[aaH,ahL];decide);have e0:jB ((botH h^0:Nat):Int) (stW h r 0) = .tuple [.tuple [ptD (zer h,0),.tuple [.int 1,.int 1]]]:=by
    show acX [.tuple [_,nf 1 ((botH h^0:Nat):Int)]]=_;rw[ahL,nw,show nfP 1 ((1:Nat):Int)=(1,1) by decide +kernel];rfl
   let⟨ty,U⟩:∃ty,(jB ((botH h^0:Nat):Int) (stW h r 0)).shown=ty:=⟨_,rfl⟩;ext s;refine⟨h,r,0,rfl,D0,X0,λW3 s3=>?_⟩;have e3:=s3.uniq X0 s0;subst e3;ext x;refine jb f0 rfl (by decide) (by decide) ?_;rw[U];ext s;refine⟨h,rfl,ho,?_⟩;ext x;refine jb f0 (by rw[e0];rfl) (by decide) (by decide) ?_;rw[U];ext s;rw[decide_eq_true (rfl:ty=ty)];refine gH ?_;ext s;exact hD1 _ ⟨_,_,_,_,_,_,_,fd,rfl,b.mono (by omega)⟩
 .rintro m n ⟨a3,a4,a5,a6,O,Q,C,fd,rfl,b⟩;ext s;exact k
end
def ar_{u:List lD}(h:u.length=n):u=(aaw n).map λi=>u.getD i .none:=af1 (by rw[h,gE,aaW]) λi a b=>by
 rw[aeL,List.getElem_range,Mt,iO a];rfl
local macro_rules | `(tactic| walk_at "dm") => `(tactic| exact λf fd F => F.binds λ_ _ _ _ _ _ us hl => by rw [ar_ hl]; rfl)
def Lq{w:World}{K:LD}{h:aaX}{mg:Str->Option lD}{fa:Addr}(X:K.In h)(G:h.Ns aaK mg)(hfa:mg "law" = some (.ref fa))(m:DefK K "greatest_divisor" cF)(dfraction_of:DefK K "fraction_of" fU)(dtaken_off:DefK K "taken_off" iM)(ddivided:DefK K "divided" nG)(dis_less:DefK K "is_less" ng)(L:DefK K "on_one_bottom" cG)(E:DefK K "place_of_lines" dh)(I:DefK K "first_shortest" dt)(dwait_at:DefK K "wait_at" oX)(z:DefK K "first_quickest" dg)(dsent_to:DefK K "sent_to" mI)(dfirst_stand:DefK K "first_stand" fG)(dall_orders:DefK K "all_orders" fg)(dwith_more:DefK K "with_more" iK)(dcome_to:DefK K "come_to" og)(ddone_at:DefK K "done_at" mE)(dnext_shift:DefK K "next_shift" gI)(dsettled:DefK K "settled" nh)(dturn_behind:DefK K "turn_behind" fM)(dline_of:DefK K "line_of" nk)(dmoved_on:DefK K "moved_on" jN)(dmove_shares:DefK K "move_shares" dF)(p:DefK K "weights_behind" dm)(dtold_shares:DefK K "told_shares" dE)(U:DefK K "left_by_turns" d4)(d_law_tape:DefK K "_law_tape" i8)(d_law_draw:DefK K "_law_draw" iJ)(d_law_cut:DefK K "_law_cut" kj)(d_law_plus:DefK K "_law_plus" iI)(d_law_times:DefK K "_law_times" gW)(d_law_parts:DefK K "_law_parts" dn)(d_law_hall:DefK K "_law_hall" ga)(x:DefK K "_law_all_lines" cr)(d_law_rule:DefK K "_law_rule" gn)(d_law_orders:DefK K "_law_orders" dI)(W:DefK K "_law_soonest" fw)(d_law_sent:DefK K "_law_sent" jh)(d_law_more:DefK K "_law_more" jf)(d_law_evened:DefK K "_law_evened" fJ)(d_law_asked:DefK K "_law_asked" gU)(d_law_behind:DefK K "_law_behind" fI)(d_law_first:DefK K "_law_first" fq)(d_law_left:DefK K "_law_left" jg)(V:DefK K "_law_in_order" cI)(d_law_due:DefK K "_law_due" j5)(dlaw:DefK K "law" slaw)(zlen:abl K aaK "len" = some none)(zabs:abl K aaK "abs" = some none)(zrange:abl K aaK "range" = some none)(zlist:abl K aaK "list" = some none)(ztuple:abl K aaK "tuple" = some none)(zint:abl K aaK "int" = some none)(zsum:abl K aaK "sum" = some none)(zzip:abl K aaK "zip" = some none)(zmin:abl K aaK "min" = some none)(zmax:abl K aaK "max" = some none)(zenumerate:abl K aaK "enumerate" = some none)(zrepr:abl K aaK "repr" = some none)(zsorted:abl K aaK "sorted" = some none)(cWHOLE_TURN:ConK K "WHOLE_TURN" (.tuple (([1,1]:List Int).map .int)))    :
  ∃fd:acV,(∀(s:mT) (v:lD),ahz s fd ⟨[v],[]⟩ [("_law_script",v)])/\∀base:aaX,K.In base->base.Ns aaK mg->FnOk l.prog w K mg base CX0 9 fa fd ["_law_script"] (spOf ⟨K,w⟩ 1 Bi):=by
 let⟨f,fd,a,F⟩:=dlaw.ex;have e:=hfa.symm.trans (ahh X G a);cases e;have T:Bl K mg:=⟨aa9 X G zlen,aa9 X G zabs,aa9 X G zrange,aa9 X G zlist,aa9 X G ztuple,aa9 X G zint,aa9 X G zsum,aa9 X G zzip,aa9 X G zmin,aa9 X G zmax,aa9 X G zenumerate,aa9 X G zrepr,aa9 X G zsorted,cWHOLE_TURN.m X G⟩;have D:=m.m (ps:=["one","other"]) X G (by ext dm);have Dfraction_of:=dfraction_of.m (ps:=["top","bottom"]) X G (by ext dm);have Dtaken_off:=dtaken_off.m (ps:=["one","other"]) X G (by ext dm);have Ddivided:=ddivided.m (ps:=["one","other"]) X G (by ext dm);have Dis_less:=dis_less.m (ps:=["one","other"]) X G (by ext dm);have N:=L.m (ps:=["pairs"]) X G (by ext dm);have q:=E.m (ps:=["hall","lines"]) X G (by ext dm);have A:=I.m (ps:=["lines","order"]) X G (by ext dm);have Dwait_at:=dwait_at.m (ps:=["hall","lines","line"]) X G (by ext dm);have t:=z.m (ps:=["hall","lines","order"]) X G (by ext dm);have Dsent_to:=dsent_to.m (ps:=["hall","rule","stand","order"]) X G (by ext dm);have Dfirst_stand:=dfirst_stand.m (ps:=["hall"]) X G (by ext dm);have Dall_orders:=dall_orders.m (ps:=["hall"]) X G (by ext dm);have Dwith_more:=dwith_more.m (ps:=["lines","line","more"]) X G (by ext dm);have Dcome_to:=dcome_to.m (ps:=["hall","lines","line"]) X G (by ext dm);have Ddone_at:=ddone_at.m (ps:=["lines","line"]) X G (by ext dm);have Dnext_shift:=dnext_shift.m (ps:=["hall","lines"]) X G (by ext dm);have Dsettled:=dsettled.m (ps:=["hall","lines"]) X G (by ext dm);have Dturn_behind:=dturn_behind.m (ps:=["hall","rule","turn"]) X G (by ext dm);have Dline_of:=dline_of.m (ps:=["hall","rule","stand","move"]) X G (by ext dm);have Dmoved_on:=dmoved_on.m (ps:=["hall","rule","stand","move"]) X G (by ext dm);have Dmove_shares:=dmove_shares.m (ps:=["hall"]) X G (by ext dm);have y:=p.m (ps:=["hall","rule","weights"]) X G (by ext dm);have Dtold_shares:=dtold_shares.m (ps:=["weights","whole"]) X G (by ext dm);have O:=U.m (ps:=["hall","rule","turns"]) X G (by ext dm);have D_law_tape:=d_law_tape.m (ps:=["_law_script"]) X G (by ext dm);have D_law_draw:=d_law_draw.m (ps:=["_law_tape_here","_law_many"]) X G (by ext dm);have D_law_cut:=d_law_cut.m (ps:=["_law_top","_law_bottom"]) X G (by ext dm);have D_law_plus:=d_law_plus.m (ps:=["_law_one","_law_other"]) X G (by ext dm);have D_law_times:=d_law_times.m (ps:=["_law_one","_law_other"]) X G (by ext dm);have D_law_parts:=d_law_parts.m (ps:=["_law_tape_here","_law_many"]) X G (by ext dm);have D_law_hall:=d_law_hall.m (ps:=["_law_tape_here","_law_menu"]) X G (by ext dm);have r:=x.m (ps:=["_law_hall_here"]) X G (by ext dm);have D_law_rule:=d_law_rule.m (ps:=["_law_tape_here","_law_hall_here"]) X G (by ext dm);have D_law_orders:=d_law_orders.m (ps:=["_law_many"]) X G (by ext dm);have Y:=W.m (ps:=["_law_hall_here","_law_lines","_law_order"]) X G (by ext dm);have D_law_sent:=d_law_sent.m (ps:=["_law_hall_here","_law_rule_here","_law_stand","_law_order"]) X G (by ext dm);have D_law_more:=d_law_more.m (ps:=["_law_lines","_law_k","_law_many"]) X G (by ext dm);have D_law_evened:=d_law_evened.m (ps:=["_law_hall_here","_law_lines"]) X G (by ext dm);have D_law_asked:=d_law_asked.m (ps:=["_law_hall_here","_law_rule_here","_law_stand","_law_order"]) X G (by ext dm);have D_law_behind:=d_law_behind.m (ps:=["_law_hall_here","_law_rule_here","_law_stand"]) X G (by ext dm);have D_law_first:=d_law_first.m (ps:=["_law_hall_here"]) X G (by ext dm);have D_law_left:=d_law_left.m (ps:=["_law_hall_here","_law_rule_here","_law_pairs"]) X G (by ext dm);have R:=V.m (ps:=["_law_shares"]) X G (by ext dm);have D_law_due:=d_law_due.m (ps:=["_law_hall_here","_law_rule_here","_law_turns"]) X G (by ext dm);refine⟨fd,λs v=>?_,λbase _ _=>?_⟩
 .obtain⟨oc,od,kV,doc,pm,an,cdv,ct,osl,rfl,lk,hcd⟩:=F.ex;exact .of_eq rfl
 .have Ggreatest_divisor:=iE (P:=l.prog) (w:=w) (base:=base) T D;have d:=mR (P:=l.prog) (w:=w) (base:=base) T Dfraction_of Ggreatest_divisor;have Gtaken_off:=tw (P:=l.prog) (w:=w) (base:=base) T Dtaken_off d;have Gdivided:=xV (P:=l.prog) (w:=w) (base:=base) T Ddivided d;have Gis_less:=yg (P:=l.prog) (w:=w) (base:=base) T Dis_less;have Q:=kW (P:=l.prog) (w:=w) (base:=base) T N Ggreatest_divisor;have B:=jA (P:=l.prog) (w:=w) (base:=base) T q;have u:=jy (P:=l.prog) (w:=w) (base:=base) T A;have Gwait_at:=xG (P:=l.prog) (w:=w) (base:=base) T Dwait_at;have C:=jv (P:=l.prog) (w:=w) (base:=base) T t Gwait_at Gis_less;have Gsent_to:=y3 (P:=l.prog) (w:=w) (base:=base) T Dsent_to u C B;have Gfirst_stand:=on (P:=l.prog) (w:=w) (base:=base) T Dfirst_stand;have Gall_orders:=qZ (P:=l.prog) (w:=w) (base:=base) T Dall_orders;have i:=tW (P:=l.prog) (w:=w) (base:=base) T Dwith_more;have Gcome_to:=xu (P:=l.prog) (w:=w) (base:=base) T Dcome_to i;have Gdone_at:=yI (P:=l.prog) (w:=w) (base:=base) T Ddone_at i;have Gnext_shift:=oY (P:=l.prog) (w:=w) (base:=base) T Dnext_shift;have Gsettled:=zx (P:=l.prog) (w:=w) (base:=base) T Dsettled Gnext_shift i;have Gturn_behind:=mJ (P:=l.prog) (w:=w) (base:=base) T Dturn_behind;have Gline_of:=zJ (P:=l.prog) (w:=w) (base:=base) T Dline_of Gsent_to;have Gmoved_on:=vN (P:=l.prog) (w:=w) (base:=base) T Dmoved_on Gline_of Gcome_to Gturn_behind Gdone_at Gsettled;have Gmove_shares:=oo (P:=l.prog) (w:=w) (base:=base) T Dmove_shares Gall_orders Gdivided Gtaken_off;have H:=jw (P:=l.prog) (w:=w) (base:=base) T y Gmove_shares Q Gmoved_on;have Gtold_shares:=oN (P:=l.prog) (w:=w) (base:=base) T Dtold_shares d;have S:=j4 (P:=l.prog) (w:=w) (base:=base) T O Gfirst_stand H Gtold_shares;have G_law_tape:=r9 (P:=l.prog) (w:=w) (base:=base) T D_law_tape;have c:=t7 (P:=l.prog) (w:=w) (base:=base) T D_law_draw;have g:=vx (P:=l.prog) (w:=w) (base:=base) T D_law_cut;have J:=rJ (P:=l.prog) (w:=w) (base:=base) T D_law_plus g;have G_law_times:=qR (P:=l.prog) (w:=w) (base:=base) T D_law_times g;have G_law_parts:=qb (P:=l.prog) (w:=w) (base:=base) T D_law_parts c g;have G_law_hall:=sK (P:=l.prog) (w:=w) (base:=base) T D_law_hall c G_law_parts;have b:=jx (P:=l.prog) (w:=w) (base:=base) T r;have G_law_rule:=sx (P:=l.prog) (w:=w) (base:=base) T D_law_rule c b;have G_law_orders:=nu (P:=l.prog) (w:=w) (base:=base) T D_law_orders;have Z:=lr (P:=l.prog) (w:=w) (base:=base) T Y;have G_law_sent:=sF (P:=l.prog) (w:=w) (base:=base) T D_law_sent b Z;have j:=sW (P:=l.prog) (w:=w) (base:=base) T D_law_more;have k:=oi (P:=l.prog) (w:=w) (base:=base) T D_law_evened j;have G_law_asked:=qh (P:=l.prog) (w:=w) (base:=base) T D_law_asked G_law_sent k j;have G_law_behind:=oG (P:=l.prog) (w:=w) (base:=base) T D_law_behind G_law_orders G_law_asked g J j k;have o:=qu (P:=l.prog) (w:=w) (base:=base) T D_law_first;have G_law_left:=sY (P:=l.prog) (w:=w) (base:=base) T D_law_left G_law_behind G_law_times J;have M:=jT (P:=l.prog) (w:=w) (base:=base) T R;have G_law_due:=vX (P:=l.prog) (w:=w) (base:=base) T D_law_due o M G_law_left;exact QF T F G_law_tape G_law_hall G_law_rule c b G_law_due S o
theorem walk{q:aaD}{b:List Str}{X:(Str->Option lD)->aaX->Prop}{Y:World->aaX->Prop}{d:DefRec}{K:Params->LD}(y:PyProof.Rows.importsNone q=true)(A:l.most=some 63)(c:d.params.defaults=[])
  (j:∀(w:World) (h:aaX),Y w h->(K w.params).In h)
  (F:∀(w:World) (mg:Str->Option lD) (g:Addr) (h:aaX),(K w.params).In h->h.Ns aaK mg->mg d.name=some (.ref g) ->
   ∃fd:acV,(∀(s:mT) (u:lD),ahz s fd ⟨[u],[]⟩ [("_law_script",u)])/\∀base:aaX,(K w.params).In base->base.Ns aaK mg->FnOk l.prog w (K w.params) mg base CX0 9 g fd ["_law_script"] (spOf ⟨K w.params,w⟩ 1 Bi)) :
  ah9 q b X Y l.row.toRowW d [] (λf vs=>ah6 f vs):=
 L2.Jd (n:=63) (k:=9) (x:= "_law_script") (CX:=λ_=>CX0) (sp:=λw=>spOf ⟨K w.params,w⟩ 1 Bi) y A (by decide) c ⟨rfl,by decide,by decide,rfl⟩ j F
  (λw H a e i p t=>⟨[.imm (.list (e.map .int))],[],λr _=>r = .imm (.bool true),rfl,adC,.imm (vT p t) .nil,⟨e,rfl,i,rfl⟩,λr o v m k _ rr _=>by cases k;exact kz (show Den ⟨K w.params,w⟩ m (.bool true) v from rr)⟩) λ_ _ _ _ _ z=>z
end K
namespace PySem.W.Fast
def tw11832688184580871791:=0
def tw1872533638818158102:=0
def tw15842793375251852565:=0
def tw12242275443993842824:=0
def tw7064232698675529270:=0
def tw6333298319810561919:=0
def tw450490350392977929:=0
def tw6788184433524873972:=0
def tw12327885455517472915:=0
def tw9083448074293197616:=0
def tw11671891135933045016:=0
def tw5885061977088124721:=0
def tw1175396263929330587:=0
def tw9001310994877185211:=0
def tw13181610442130806060:=0
def tw16274686992671774169:=0
def tw5137590488296852899:=0
def tw18194381326247011474:=0
def tw8642567557301507356:=0
def tw9787970043622495231:=0
def tw4258242829341714517:=0
def tw6959349385494415531:=0
def tw14012241763775890072:=0
def tw2366173876654435974:=0
def tw9701596525730573618:=0
def tw5569049231684940385:=0
def tw11239578499666366906:=0
def tw410906075122239085:=0
def tw11891088351821876539:=0
def tw1957529830583382243:=0
def tw10835683086237200745:=0
def tw3768834664582704709:=0
def tw8082311667422368050:=0
def tw10510275845956484335:=0
def tw3765382476950437652:=0
def tw5008820182771776541:=0
def tw13345410529907913857:=0
def tw4793363830849690064:=0
def tw2954776270871514031:=0
def tw680374463682513618:=0
def tw16684960397673695837:=0
def tw15282473101027061812:=0
def tw3251695389964991879:=0
def tw2560831525894080784:=0
def tw381633003192958950:=0
def tw7984529008243218308:=0
def tw10211257686796947854:=0
def tw575728292444425517:=0
def tw15225792464201754926:=0
def tw230435715811304833:=0
def tw14978112282810713053:=0
def tw15744947430190247997:=0
def tw11166145136442040973:=0
def tw16299431664212472945:=0
def tw7899961844533323812:=0
def tw18101474849240205650:=0
def tw4053181685354586787:=0
def tw11423226362792336148:=0
def tw5712535244696708894:=0
def tw4179645341893555304:=0
def tw6161760562241752674:=0
def tw1534954707153594747:=0
def tw12992628860521390855:=0
def tw4723426007610547067:=0
def tw14095241503642355976:=0
def tw2874669017905096656:=0
def tw1456899593687230828:=0
def tw12807393631148729804:=0
def tw14672066153010544455:=0
def tw3158603733417215360:=0
def tw8765202631092705913:=0
def tw16645772121897597541:=0
def tw11220670522629207972:=0
def tw9947342174742469590:=0
def tw375214431964510443:=0
def tw8682732795334502942:=0
def tw3182097599650030063:=0
def tw11116499971489869069:=0
def tw14789073567039342324:=0
def tw782970057088887363:=0
def tw6947857863524270050:=0
def tw8037055758925959906:=0
def tw10543594355827762959:=0
def tw579499171331182814:=0
def tw4124903225653082173:=0
def tw5145174718736494967:=0
def tw7609356631653321326:=0
def tw14983539163364434360:=0
def tw4209144396513794982:=0
def tw10783102723006546969:=0
def tw16906946708360618361:=0
def tw18027368584665831525:=0
def tw13703528967312575384:=0
def tw15412680284181790737:=0
def tw17440574465827205436:=0
def tw6567931612881566868:=0
def tw15554778893997005622:=0
def tw7803039503967933535:=0
def tw9006271210067488471:=0
def tw5262840887607336291:=0
def tw14183709486803543275:=0
def tw15020586954730515563:=0
def tw12349664187245980304:=0
def tw2793185404918174350:=0
def tw6474039547549481702:=0
def tw18088024349655518675:=0
def tw16928077089790789049:=0
def tw1151910932526136872:=0
def tw11832500024136846647:=0
def tw13855986149346518209:=0
def tw1022170902165604891:=0
def tw11362086025147849574:=0
def tw4078968807343696159:=0
def tw11857827724508684848:=0
def tw2663221361452330400:=0
def tw5596822894021542072:=0
def tw9327079407591925019:=0
def tw11825531224187240382:=0
def tw17594186100747647449:=0
def tw16997711466576864982:=0
def tw351368408520356414:=0
def tw8137325288883600063:=0
def tw15420754624438984103:=0
def tw13066324340465643691:=0
def tw8967814037036805884:=0
def tw2416672460731873421:=0
def tw17739933950831696440:=0
def tw8624414281673922686:=0
def tw4584295174822215800:=0
def tw3266045139838313321:=0
def tw3775901229597367928:=0
def tw4442555203516107727:=0
def tw7423233685959068935:=0
def tw4572634282509180299:=0
def tw2057480582678345422:=0
def tw11045325741536588622:=0
def tw348493458458881882:=0
def tw758071437853192669:=0
def tw9500631555730596986:=0
def tw12478627052534049723:=0
def tw14190731599480539006:=0
def tw15230434347070606394:=0
def tw8100039406637018632:=0
def tw15663397813298485780:=0
def tw14874016210638036728:=0
def tw12068054172566643495:=0
def tw5658805881281963595:=0
def tw3949261606376026618:=0
def tw17946148851691675211:=0
def tw11942381709067171428:=0
def tw11504056984457978194:=0
def tw3058508840359808773:=0
def tw1644438485891789247:=0
def tw6286310742763001079:=0
def tw8571906319824038351:=0
def tw17632420195190281917:=0
def tw3639472143642536674:=0
def tw421226427622058460:=0
def tw457030030266036517:=0
def tw17714044614147482856:=0
def tw9815681933888407766:=0
def tw6246266328187821423:=0
def tw270320923177981718:=0
def tw15791704089653024964:=0
def tw8068410794405896524:=0
def tw7398316771873214776:=0
def tw3940481254877335339:=0
def tw565726276417243655:=0
def tw4197955759216904980:=0
def tw16788345458104925242:=0
def tw102843108280524145:=0
def tw16350480995645486205:=0
def tw16438119354877723549:=0
def tw17239469565326249333:=0
def tw7643459003307349662:=0
def tw6431364896893640128:=0
def tw8201869675512733812:=0
def tw1575678891368378856:=0
def tw12986233110851099165:=0
def tw18278699168859466771:=0
def tw18372541229157496387:=0
def tw2918217632100616100:=0
def tw5389899991612833106:=0
def tw12940354691786526031:=0
def tw12952153043335197452:=0
def tw8567411163770831751:=0
def tw4439123848654804342:=0
def tw1813780321812038965:=0
def tw16199572636287578777:=0
def tw17676232386869646682:=0
def tw4318200912903119810:=0
def tw614599767311098392:=0
def tw9629932814638650244:=0
def tw16873052928826582644:=0
def tw1734078216990047608:=0
def tw11802015995505517411:=0
def tw11628090068070198418:=0
def tw17823612644516382974:=0
def tw16254418458593665308:=0
def tw5195001969155705675:=0
def tw10771501842460372405:=0
def tw2768569347866112768:=0
def tw16728935718749473694:=0
def tw17132807617684331503:=0
def tw9131701764703883423:=0
def tw9634144042762468603:=0
def tw7330954292596155967:=0
def tw13901957797452581119:=0
def tw13596094841850843460:=0
def tw2071545321170363485:=0
def tw17959392771885006867:=0
def tw12074817798884836349:=0
end PySem.W.Fast
open PySem PySem.W PyProof.Rows
local macro_rules | `(tactic| walk_at "dk") => `(tactic| (refine' L2.DefK.of ?a ?l ?c ?k; (case a => k_is); (case l => k_is); (case c => k_is); (case k => k_is)))
set_option maxRecDepth 100000 in
set_option maxHeartbeats 0 in
theorem PySem.Challenge.cw_shorterline_k27_what_turns_leave_holds : PySem.Challenge.rw_shorterline_k27_what_turns_leave.Holds := by
 w_on;o_law;k_head;(case hw=>w_witness2)
 k_fill
 refine K.walk (l:=PySem.Challenge.rw_shorterline_k27_what_turns_leave) ?hq rfl rfl (λw h Y=>PySem.W.kIn_of Y) ?F
 case hq=>kernel_rfl
 case F=>
  intro w mg fa h KX G hmg;refine' K.Lq KX G hmg ?dgreatest_divisor ?dfraction_of ?dtaken_off ?ddivided ?dis_less ?don_one_bottom ?dplace_of_lines ?dfirst_shortest ?dwait_at ?dfirst_quickest ?dsent_to ?dfirst_stand ?dall_orders ?dwith_more ?dcome_to ?ddone_at ?dnext_shift ?dsettled ?dturn_behind ?dline_of ?dmoved_on ?dmove_shares ?dweights_behind ?dtold_shares ?dleft_by_turns ?d_law_tape ?d_law_draw ?d_law_cut ?d_law_plus ?d_law_times ?d_law_parts ?d_law_hall ?d_law_all_lines ?d_law_rule ?d_law_orders ?d_law_soonest ?d_law_sent ?d_law_more ?d_law_evened ?d_law_asked ?d_law_behind ?d_law_first ?d_law_left ?d_law_in_order ?d_law_due ?dlaw ?zlen ?zabs ?zrange ?zlist ?ztuple ?zint ?zsum ?zzip ?zmin ?zmax ?zenumerate ?zrepr ?zsorted ?cWHOLE_TURN
  (case dgreatest_divisor=>ext dk)
  (case dfraction_of=>ext dk)
  (case dtaken_off=>ext dk)
  (case ddivided=>ext dk)
  (case dis_less=>ext dk)
  (case don_one_bottom=>ext dk)
  (case dplace_of_lines=>ext dk)
  (case dfirst_shortest=>ext dk)
  (case dwait_at=>ext dk)
  (case dfirst_quickest=>ext dk)
  (case dsent_to=>ext dk)
  (case dfirst_stand=>ext dk)
  (case dall_orders=>ext dk)
  (case dwith_more=>ext dk)
  (case dcome_to=>ext dk)
  (case ddone_at=>ext dk)
  (case dnext_shift=>ext dk)
  (case dsettled=>ext dk)
  (case dturn_behind=>ext dk)
  (case dline_of=>ext dk)
  (case dmoved_on=>ext dk)
  (case dmove_shares=>ext dk)
  (case dweights_behind=>ext dk)
  (case dtold_shares=>ext dk)
  (case dleft_by_turns=>ext dk)
  (case d_law_tape=>ext dk)
  (case d_law_draw=>ext dk)
  (case d_law_cut=>ext dk)
  (case d_law_plus=>ext dk)
  (case d_law_times=>ext dk)
  (case d_law_parts=>ext dk)
  (case d_law_hall=>ext dk)
  (case d_law_all_lines=>ext dk)
  (case d_law_rule=>ext dk)
  (case d_law_orders=>ext dk)
  (case d_law_soonest=>ext dk)
  (case d_law_sent=>ext dk)
  (case d_law_more=>ext dk)
  (case d_law_evened=>ext dk)
  (case d_law_asked=>ext dk)
  (case d_law_behind=>ext dk)
  (case d_law_first=>ext dk)
  (case d_law_left=>ext dk)
  (case d_law_in_order=>ext dk)
  (case d_law_due=>ext dk)
  (case dlaw=>ext dk)
  (case zlen=>k_is)
  (case zabs=>k_is)
  (case zrange=>k_is)
  (case zlist=>k_is)
  (case ztuple=>k_is)
  (case zint=>k_is)
  (case zsum=>k_is)
  (case zzip=>k_is)
  (case zmin=>k_is)
  (case zmax=>k_is)
  (case zenumerate=>k_is)
  (case zrepr=>k_is)
  (case zsorted=>k_is)
  (case cWHOLE_TURN=>(refine' L2.ConK.ints ?a ?l ?i ?z;(case a=>k_is);(case l=>k_is);(case i=>rfl);(case z=>decide)))